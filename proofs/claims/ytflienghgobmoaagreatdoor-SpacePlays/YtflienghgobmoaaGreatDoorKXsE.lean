import Derived.Test.YtflienghgobmoaaGreatDoorKWpD
import Derived.Test.YtflienghgobmoaaGreatDoorKPyM
namespace Go.Proofs.YtflienghgobmoaaGreatDoor
open Go.RowKit Rec
def RTx.all (U : RTx) (k : Nat) : Prop := k = U.u ∨ U.rv.ownBlock = some k
theorem RTxAt.lt {w : World} {U : RTx} (h : RTxAt w U) {k : Nat} (hk : U.all k) : k < w.heap.size := by
  rcases hk with e | e
  · rw [e]; exact heap_lt h.box
  · exact owns_block h.row e
theorem RTxAt.fr {S : Nat → Prop} {w w' : World} {U : RTx} (h : RTxAt w U) (x : Fr S w w') (hS : ∀ k, U.all k → ¬ S k) : RTxAt w' U :=
  ⟨x.heap h.box (hS _ (.inl rfl)), owns_fr h.row x (fun k hk e => hS k (.inr hk) e), h.len, h.each⟩
structure UMv (w : World) (U : RTx) (w' : World) (U' : RTx) : Prop where
  fr : Fr U.all w w'
  al : ∀ k, U'.all k → U.all k ∨ w.heap.size ≤ k
  u : U'.u = U.u
  r : U'.r = U.r
theorem UMv.on {w w' : World} {U : RTx} (hb : Below w.heap.size w w') : UMv w U w' U := ⟨below_fr hb _, fun _ h => .inl h, rfl, rfl⟩
def DnOk (q : Dn) : Prop := 98 ≤ q.b ∧ q.b < 16384 ∧ q.x.length = 512 ∧ ∀ i, 0 ≤ nth q.x i ∧ nth q.x i < 256
/-- another row is stored -/
theorem RTxAt.put {w w1 : World} {U : RTx} {v : Value} {L : List Dn} {n : Nat} (hn : L.length = n) (hb : w1.heap[U.u]? = some (.cells U.cells 119 (0, 0))) (h1 : w1.ownsRow 0 132 2 v n (L.flatMap Dn.cs)) (hx : Fr (fun k => U.rv.ownBlock = some k) w w1) (hl : n ≤ 4000000) (he : ∀ q ∈ L, DnOk q) (hv : ∀ k, v.ownBlock = some k → U.rv.ownBlock = some k ∨ w.heap.size ≤ k) :
    RTxAt (w1.setCell ⟨U.u, 1, none⟩ v) { U with rv := v, row := L } ∧ UMv w U (w1.setCell ⟨U.u, 1, none⟩ v) { U with rv := v, row := L } := by
  have x : Fr (fun k => k = U.u) w1 (w1.setCell ⟨U.u, 1, none⟩ v) := Fr.set
  refine ⟨⟨heap_setCell_same _ _ _ _ _ _ hb, ?_, by show L.length ≤ _; omega, he⟩, ⟨(hx.mono (fun k hk => .inr hk)).trans x (fun k hk => .inl (.inl hk)), fun k hk => ?_, rfl, rfl⟩⟩
  · show (w1.setCell _ _).ownsRow 0 _ 2 v L.length (L.flatMap Dn.cs)
    rw [hn]
    exact owns_fr h1 x (fun k hk e => own_apartX h1 hb (by decide) (by rw [hk, e]))
  · rcases hk with e | e
    · exact .inl (.inl e)
    · exact (hv k e).imp .inr id
theorem RTxAt.add {w wx w1 : World} {U : RTx} {q : Dn} {g cap : Nat} (h : RTxAt w U) (hq : DnOk q) (hA : Below w.heap.size w wx) (h1 : w1.ownsRow 0 132 2 (.slice (some ⟨g, 0, none⟩) (U.row.length + 1) cap) (U.row.length + 1) (U.row.flatMap Dn.cs ++ q.cs)) (h2 : Fr (fun k => U.rv.ownBlock = some k) wx w1) (hg : U.rv.ownBlock = some g ∨ wx.heap.size ≤ g) (hl : U.row.length + 1 ≤ 4000000) :
    w1.heap[U.u]? = some (.cells U.cells 119 (0, 0)) ∧ RTxAt (w1.setCell ⟨U.u, 1, none⟩ (.slice (some ⟨g, 0, none⟩) (U.row.length + 1) cap)) { U with rv := .slice (some ⟨g, 0, none⟩) (U.row.length + 1) cap, row := U.row ++ [q] } ∧ UMv w U (w1.setCell ⟨U.u, 1, none⟩ (.slice (some ⟨g, 0, none⟩) (U.row.length + 1) cap)) { U with rv := .slice (some ⟨g, 0, none⟩) (U.row.length + 1) cap, row := U.row ++ [q] } := by
  have hw := h.on hA
  have hbox : w1.heap[U.u]? = some (.cells U.cells 119 (0, 0)) := h2.heap hw.box (fun e => own_apartX hw.row hw.box (by decide) e)
  have e : (U.row ++ [q]).flatMap Dn.cs = U.row.flatMap Dn.cs ++ q.cs := by simp
  rw [← e] at h1
  have hx : Fr (fun k => U.rv.ownBlock = some k) w w1 := (below_fr hA (fun k => U.rv.ownBlock = some k)).trans h2 (fun k hk => .inl hk)
  refine ⟨hbox, RTxAt.put (L := U.row ++ [q]) (by simp) hbox h1 hx hl (fun p hp => ?_) (fun k hk => ?_)⟩
  · rcases List.mem_append.1 hp with hp | hp
    · exact h.each p hp
    · rw [List.mem_singleton.1 hp]; exact hq
  · cases hk
    exact hg.imp id (fun e => Nat.le_trans hA.size e)
theorem rw_same {w w' : World} {U : RTx} {b : Bool} {E i : Int} {x : List Int} (hE : E ≠ 0) (h : ∃ U', RTxAt w' U' ∧ UMv w U w' U' ∧ U'.ends = b ∧ U'.row = U.row) : ∃ U', RTxAt w' U' ∧ UMv w U w' U' ∧ U'.ends = b ∧ U'.row = if E = 0 then U.row ++ [⟨i, x⟩] else U.row := by
  rw [if_neg hE]; exact h
/-- what Write answers, and the row behind it -/
def rwE (U : RTx) (nb : Nat) (i : Int) (n : Nat) : Int := if U.ends then 61 else if i < 98 ∨ (nb : Int) ≤ i then 31 else if n ≠ 512 then 32 else if lpB U.row i U.row.length = none ∧ 96 ≤ (wl U.row nb).length then 60 else 0
theorem infoDn : (Tryz.prog.info? 132).map (fun i => (i.zero, i.size, i.bytes)) = some (some (.agg #[.int .i64 0, .string ⟨#[]⟩]), 2, 24) := by kernel_rfl
set_option maxRecDepth 100000 in
set_option maxHeartbeats 4000000 in
theorem rxwrite_any (w : World) (a : AD) (R : RDk) (j : Nat) (h : RT w a R j) (U : RTx) (hU : RTxAt w U) (hr : U.r = R.r) (hl : U.row.length + 1 ≤ 4000000) (i : Int) (pa : Option Addr) (n c : Nat) (x : List Int) (hb : Bytes w pa x) (hx : x.length = n) (hn : n ≤ 140737488351232) :
    Calls Tryz.prog 36 #[.pointer (some ⟨U.u, 0, none⟩), .int .i64 i, .slice pa n c] w fun e w' => e = .returned (.int .i64 (rwE U a.nb i n)) ∧ ∃ U', RTxAt w' U' ∧ UMv w U w' U' ∧ U'.ends = U.ends ∧ U'.row = if rwE U a.nb i n = 0 then U.row ++ [⟨i, x⟩] else U.row := by
  have hnb := h.r.nb0
  rw [← h.tie.nb] at hnb
  have CW : Hid (∀ wx, Below w.heap.size w wx → Calls Tryz.prog 39 #[.pointer (some ⟨U.u, 0, none⟩)] wx (WrP wx (wrL U a.nb))) := fun wx hb => rwritten_any wx a R j (h.on hb) U (hU.on hb) hr
  obtain ⟨nb, hnbe⟩ : ∃ nb, a.nb = nb := ⟨_, rfl⟩
  have CB : Hid (Calls Tryz.prog 79 #[.pointer (some ⟨R.r, 0, none⟩)] w fun e w' => e = .returned (.int .i64 (nb : Int)) ∧ Below w.heap.size w w') := by have := rdblocks_any w R h.r; rw [← h.tie.nb, hnbe] at this; exact this
  have CP : Hid (∀ wx, Below w.heap.size w wx → Calls Tryz.prog 80 #[.pointer (some ⟨U.u, 0, none⟩), .int .i64 i] wx fun e w' => e = .returned (.int .i64 (lpN U.row i U.row.length)) ∧ Below wx.heap.size wx w') := fun wx hb => r6put_any wx U (hU.on hb) i
  have HC : Hid (∀ wx, Below w.heap.size w wx → wx.cell? ⟨U.u, 0, none⟩ = some (.pointer (some ⟨R.r, 0, none⟩)) ∧ wx.cell? ⟨U.u, 2, none⟩ = some (.bool U.ends)) := fun wx hb => ⟨by rw [(hU.on hb).cell 0, ← hr]; rfl, (hU.on hb).cell 2⟩
  have HU : Hid (RTxAt w U) := hU
  have HBx : Hid (Bytes w pa x) := hb
  have hsame : ∀ {w' : World}, Below w.heap.size w w' → ∃ U', RTxAt w' U' ∧ UMv w U w' U' ∧ U'.ends = U.ends ∧ U'.row = U.row := fun hb => ⟨U, HU.out.on hb, UMv.on hb, rfl, rfl⟩
  rw [hnbe] at hnb CW ⊢
  clear h hr hU hnbe hb
  obtain ⟨E, hE⟩ : ∃ E, rwE U nb i n = E := ⟨_, rfl⟩
  rw [hE]
  unfold rwE at hE
  have HSm : Hid (∀ {w' : World}, Below w.heap.size w w' → ∃ U', RTxAt w' U' ∧ UMv w U w' U' ∧ U'.ends = U.ends ∧ U'.row = U.row) := hsame
  clear hsame
  obtain ⟨c0, c2⟩ := HC.out w (Below.refl _ _)
  cases hen : U.ends with
  | true =>
    rw [hen] at c2
    rw [if_pos hen] at hE
    subst hE
    go_enter Tryz.func36, Tryz.ntmps36
    go_wp2
    go_ret
    exact ⟨rfl, rw_same (E := 61) (i := i) (x := x) (by decide) (by have := HSm.out (w' := w) (Below.refl _ _); rw [hen] at this; exact this)⟩
  | false =>
    rw [hen] at c2 HC
    rw [if_neg (by rw [hen]; simp)] at hE
    by_cases hlo : i < 98
    · rw [if_pos (.inl hlo)] at hE
      subst hE
      go_enter Tryz.func36, Tryz.ntmps36
      go_wp2
      go_ret
      exact ⟨rfl, rw_same (E := 31) (i := i) (x := x) (by decide) (by have := HSm.out (w' := w) (Below.refl _ _); rw [hen] at this; exact this)⟩
    · by_cases hhi : (nb : Int) ≤ i
      · rw [if_pos (.inr hhi)] at hE
        subst hE
        go_enter Tryz.func36, Tryz.ntmps36
        go_wp2_with (go_at_call 79; refine CB.out.mono ?_; rintro e w1 ⟨rfl, hb1⟩; have H1 : Hid (Below w.heap.size w w1) := hb1; clear hb1)
        go_ret
        exact ⟨rfl, rw_same (E := 31) (i := i) (x := x) (by decide) (by have := HSm.out H1.out; rw [hen] at this; exact this)⟩
      · rw [if_neg (by omega)] at hE
        by_cases h512 : n ≠ 512
        · rw [if_pos h512] at hE
          subst hE
          have hne : ((n : Int) != 512) = true := by simp; omega
          go_enter Tryz.func36, Tryz.ntmps36
          go_wp2_with (go_at_call 79; refine CB.out.mono ?_; rintro e w1 ⟨rfl, hb1⟩; have H1 : Hid (Below w.heap.size w w1) := hb1; clear hb1)
          go_ret
          exact ⟨rfl, rw_same (E := 32) (i := i) (x := x) (by decide) (by have := HSm.out H1.out; rw [hen] at this; exact this)⟩
        · rw [if_neg h512] at hE
          have hn5 : n = 512 := by omega
          have hwr : wrL U nb = wl U.row nb := by unfold wrL; rw [if_neg (by rw [hen]; simp)]
          rw [hwr] at CW
          obtain ⟨m, hm⟩ : ∃ m, (wl U.row nb).length = m := ⟨_, rfl⟩
          have HM : Hid ((wl U.row nb).length = m) := hm
          rw [hm] at hE
          have hlp := lpN_lo U.row i U.row.length
          obtain ⟨p, hp⟩ : ∃ p, lpN U.row i U.row.length = p := ⟨_, rfl⟩
          rw [hp] at hlp CP
          have hpn : lpB U.row i U.row.length = none ↔ p < 0 := by
            rcases lp_some U.row i U.row.length (Nat.le_refl _) with ⟨e1, e2⟩ | ⟨k, q, hk, e1, _, _, e2⟩
            · rw [e2, ← hp, e1]; simp
            · rw [e2, ← hp, e1]; simp
          simp only [hpn] at hE
          clear hpn hp hwr hm
          have hm0 : (0 : Int) ≤ (m : Int) := by omega
          by_cases hbig : p < 0 ∧ 96 ≤ m
          · rw [if_pos hbig] at hE
            subst hE
            obtain ⟨hp0, hm96⟩ := hbig
            have hm96' : (96 : Int) ≤ (m : Int) := by omega
            subst hn5
            go_enter Tryz.func36, Tryz.ntmps36
            go_wp2_with (first
              | (go_at_call 79; refine CB.out.mono ?_; rintro e w1 ⟨rfl, hb1⟩; have H1 : Hid (Below w.heap.size w w1) := hb1; clear hb1 CB)
              | (go_at_call 80; refine (CP.out w1 H1.out).mono ?_; rintro e w2 ⟨rfl, hb2⟩; have H2 : Hid (Below w.heap.size w w2) := H1.out.trans (hb2.mono H1.out.size); clear hb2 CP)
              | (go_at_call 39; refine (CW.out w2 H2.out).mono ?_; rintro e w3 ⟨v, rfl, hv⟩; have H3 : Hid (Below w.heap.size w w3) := H2.out.trans (hv.bel.mono H2.out.size); obtain ⟨va, vc, rfl, _⟩ := owns_slice hv.row; rw [HM.out]; clear hv))
            go_ret
            exact ⟨rfl, rw_same (E := 60) (i := i) (x := x) (by decide) (by have := HSm.out H3.out; rw [hen] at this; exact this)⟩
          · rw [if_neg hbig] at hE
            subst hE hn5
            by_cases hp0 : p < 0
            · have hm96 : ¬ (96 : Int) ≤ (m : Int) := by omega
              clear hbig
              go_enter Tryz.func36, Tryz.ntmps36
              go_upto_region 11 with (first
                | (go_at_call 79; refine CB.out.mono ?_; rintro e w1 ⟨rfl, hb1⟩; have H1 : Hid (Below w.heap.size w w1) := hb1; clear hb1 CB)
                | (go_at_call 80; refine (CP.out w1 H1.out).mono ?_; rintro e w2 ⟨rfl, hb2⟩; have H2 : Hid (Below w.heap.size w w2) := H1.out.trans (hb2.mono H1.out.size); clear hb2 CP)
                | (go_at_call 39; refine (CW.out w2 H2.out).mono ?_; rintro e w3 ⟨v, rfl, hv⟩; have H3 : Hid (Below w.heap.size w w3) := H2.out.trans (hv.bel.mono H2.out.size); obtain ⟨va, vc, rfl, _⟩ := owns_slice hv.row; rw [HM.out]; clear hv))
              clear c0 c2 hlp CW
              obtain ⟨aa, ac, ha, _⟩ := HU.out.at_
              have HV : Hid (U.rv = .slice aa U.row.length ac) := ha
              have HRow : Hid (RTxAt w3 U ∧ w3.ownsRow 0 132 2 (.slice aa U.row.length ac) U.row.length (U.row.flatMap Dn.cs)) := ⟨HU.out.on H3.out, by rw [← ha]; exact (HU.out.on H3.out).row⟩
              have y1 : w3.cell? ⟨U.u, 1, none⟩ = some (.slice aa U.row.length ac) := by rw [HRow.out.1.cell 1, ← ha]; rfl
              obtain ⟨s, hs⟩ : ∃ s, strOfNums x = s := ⟨_, rfl⟩
              have y1a : (w3.alloc (.cells #[.int .i64 i, .string s] 132)).cell? ⟨U.u, 1, none⟩ = some (.slice aa U.row.length ac) := (fr_alloc (fun _ => False) w3 _).cell y1 (fun e => e)
              have HSs : Hid (strOfNums x = s) := hs
              have HQ : Hid (DnOk ⟨i, x⟩) := ⟨by show 98 ≤ i; omega, by show i < 16384; omega, hx, HBx.out.wf⟩
              have e1 : (convert 22 9 (.slice pa 512 c)).run Tryz.prog w3 = .ok (.string s) w3 := by rw [← hs]; exact str_opt (HBx.out.on H3.out) hx
              have e2 : (convert 22 9 (.slice pa 512 c)).run Tryz.prog w3.drew = .ok (.string s) w3.drew := by rw [← hs]; exact str_opt (HBx.out.on H3.out.drew) hx
              clear ha hs HBx HM
              have HA1 : Hid (∀ o, Below w3.heap.size w3 (w3.drew.alloc o)) := fun o => (Below.refl w3.heap.size w3).drew.alloc (Nat.le_refl _) o
              have HA2 : Hid (∀ o, Below w3.heap.size w3 (w3.alloc o).drew) := fun o => ((Below.refl w3.heap.size w3).alloc (Nat.le_refl _) o).drew
              have HA3 : Hid (∀ o, Below w3.heap.size w3 (w3.drew.alloc o).drew) := fun o => (HA1.out o).drew
              have HA4 : Hid (∀ o, Below w3.heap.size w3 (w3.alloc o)) := fun o => ((Below.refl w3.heap.size w3).alloc (Nat.le_refl _) o)
              obtain ⟨i1, j1, j2, j3, j4⟩ := info_parts infoDn
              go_region_law
                (first
                  | (refine step_own (by rfl) (.tmp 43) (.tmp 48) 117 (by rfl) 132 i1 _ 2 24 Tryz.underlying117 j1 j2 j3 j4 (by rfl) (by decide) (.slice aa U.row.length ac) U.row.length (U.row.flatMap Dn.cs) (by rfl) (owns_fr HRow.out.2 (below_fr (by first | exact HA1.out _ | exact HA2.out _ | exact HA3.out _ | exact HA4.out _) (fun _ => False)) (fun _ _ e => e)) ⟨w3.heap.size, 0, none⟩ 1 1 [.int .i64 i, .string s] (by rfl) (by decide) (by rfl) (news_of (heap_alloc_new _ _) _ rfl) (by intro u hu; simp at hu; rcases hu with rfl | rfl <;> rfl) (by unfold maxLen; omega) (by omega) ?_
                     intro b bc w4 h1 h2 h3
                     have H4 : Hid (w4.heap[U.u]? = some (.cells U.cells 119 (0, 0)) ∧ RTxAt (w4.setCell ⟨U.u, 1, none⟩ (.slice (some ⟨b, 0, none⟩) (U.row.length + 1) bc)) { U with rv := .slice (some ⟨b, 0, none⟩) (U.row.length + 1) bc, row := U.row ++ [⟨i, x⟩] } ∧ UMv w3 U (w4.setCell ⟨U.u, 1, none⟩ (.slice (some ⟨b, 0, none⟩) (U.row.length + 1) bc)) { U with rv := .slice (some ⟨b, 0, none⟩) (U.row.length + 1) bc, row := U.row ++ [⟨i, x⟩] }) := (by
                       rw [← HV.out] at h2 h3
                       rw [← HSs.out] at h1
                       first
                       | exact HRow.out.1.add HQ.out (HA1.out _) h1 h2 h3 hl
                       | exact HRow.out.1.add HQ.out (HA2.out _) h1 h2 h3 hl
                       | exact HRow.out.1.add HQ.out (HA3.out _) h1 h2 h3 hl
                       | exact HRow.out.1.add HQ.out (HA4.out _) h1 h2 h3 hl)
                     have d1 : w4.cell? ⟨U.u, 1, none⟩ = some U.rv := cell_of_row _ _ 1 _ _ _ H4.out.1
                     have e4 : w4.frozen? ⟨U.u, 1, none⟩ = false := frozen_of_row _ _ 1 _ _ H4.out.1
                     clear h1 h2 h3 y1 y1a))
              all_goals
                obtain ⟨w5, hw5⟩ : ∃ w5, w4.setCell ⟨U.u, 1, none⟩ (.slice (some ⟨b, 0, none⟩) (U.row.length + 1) bc) = w5 := ⟨_, rfl⟩
                rw [hw5] at H4 ⊢
                clear d1 e4 hw5
                go_wp2
                go_ret
                refine ⟨rfl, _, H4.out.2.1, ⟨(below_fr H3.out _).trans H4.out.2.2.fr (fun k e => .inl e), fun k e => (H4.out.2.2.al k e).imp id (fun e => Nat.le_trans H3.out.size e), rfl, rfl⟩, hen, by first | rfl | rw [if_pos rfl]⟩
            · clear hbig
              go_enter Tryz.func36, Tryz.ntmps36
              go_upto_region 11 with (first
                | (go_at_call 79; refine CB.out.mono ?_; rintro e w1 ⟨rfl, hb1⟩; have H1 : Hid (Below w.heap.size w w1) := hb1; clear hb1 CB)
                | (go_at_call 80; refine (CP.out w1 H1.out).mono ?_; rintro e w2 ⟨rfl, hb2⟩; have H2 : Hid (Below w.heap.size w w2) := H1.out.trans (hb2.mono H1.out.size); clear hb2 CP)
                | (go_at_call 39; refine (CW.out w2 H2.out).mono ?_; rintro e w3 ⟨v, rfl, hv⟩; have H3 : Hid (Below w.heap.size w w3) := H2.out.trans (hv.bel.mono H2.out.size); obtain ⟨va, vc, rfl, _⟩ := owns_slice hv.row; rw [HM.out]; clear hv))
              clear c0 c2 hlp CW
              obtain ⟨aa, ac, ha, _⟩ := HU.out.at_
              have HV : Hid (U.rv = .slice aa U.row.length ac) := ha
              have HRow : Hid (RTxAt w3 U ∧ w3.ownsRow 0 132 2 (.slice aa U.row.length ac) U.row.length (U.row.flatMap Dn.cs)) := ⟨HU.out.on H3.out, by rw [← ha]; exact (HU.out.on H3.out).row⟩
              have y1 : w3.cell? ⟨U.u, 1, none⟩ = some (.slice aa U.row.length ac) := by rw [HRow.out.1.cell 1, ← ha]; rfl
              obtain ⟨s, hs⟩ : ∃ s, strOfNums x = s := ⟨_, rfl⟩
              have y1a : (w3.alloc (.cells #[.int .i64 i, .string s] 132)).cell? ⟨U.u, 1, none⟩ = some (.slice aa U.row.length ac) := (fr_alloc (fun _ => False) w3 _).cell y1 (fun e => e)
              have HSs : Hid (strOfNums x = s) := hs
              have HQ : Hid (DnOk ⟨i, x⟩) := ⟨by show 98 ≤ i; omega, by show i < 16384; omega, hx, HBx.out.wf⟩
              have e1 : (convert 22 9 (.slice pa 512 c)).run Tryz.prog w3 = .ok (.string s) w3 := by rw [← hs]; exact str_opt (HBx.out.on H3.out) hx
              have e2 : (convert 22 9 (.slice pa 512 c)).run Tryz.prog w3.drew = .ok (.string s) w3.drew := by rw [← hs]; exact str_opt (HBx.out.on H3.out.drew) hx
              clear ha hs HBx HM
              have HA1 : Hid (∀ o, Below w3.heap.size w3 (w3.drew.alloc o)) := fun o => (Below.refl w3.heap.size w3).drew.alloc (Nat.le_refl _) o
              have HA2 : Hid (∀ o, Below w3.heap.size w3 (w3.alloc o).drew) := fun o => ((Below.refl w3.heap.size w3).alloc (Nat.le_refl _) o).drew
              have HA3 : Hid (∀ o, Below w3.heap.size w3 (w3.drew.alloc o).drew) := fun o => (HA1.out o).drew
              have HA4 : Hid (∀ o, Below w3.heap.size w3 (w3.alloc o)) := fun o => ((Below.refl w3.heap.size w3).alloc (Nat.le_refl _) o)
              obtain ⟨i1, j1, j2, j3, j4⟩ := info_parts infoDn
              go_region_law
                (first
                  | (refine step_own (by rfl) (.tmp 43) (.tmp 48) 117 (by rfl) 132 i1 _ 2 24 Tryz.underlying117 j1 j2 j3 j4 (by rfl) (by decide) (.slice aa U.row.length ac) U.row.length (U.row.flatMap Dn.cs) (by rfl) (owns_fr HRow.out.2 (below_fr (by first | exact HA1.out _ | exact HA2.out _ | exact HA3.out _ | exact HA4.out _) (fun _ => False)) (fun _ _ e => e)) ⟨w3.heap.size, 0, none⟩ 1 1 [.int .i64 i, .string s] (by rfl) (by decide) (by rfl) (news_of (heap_alloc_new _ _) _ rfl) (by intro u hu; simp at hu; rcases hu with rfl | rfl <;> rfl) (by unfold maxLen; omega) (by omega) ?_
                     intro b bc w4 h1 h2 h3
                     have H4 : Hid (w4.heap[U.u]? = some (.cells U.cells 119 (0, 0)) ∧ RTxAt (w4.setCell ⟨U.u, 1, none⟩ (.slice (some ⟨b, 0, none⟩) (U.row.length + 1) bc)) { U with rv := .slice (some ⟨b, 0, none⟩) (U.row.length + 1) bc, row := U.row ++ [⟨i, x⟩] } ∧ UMv w3 U (w4.setCell ⟨U.u, 1, none⟩ (.slice (some ⟨b, 0, none⟩) (U.row.length + 1) bc)) { U with rv := .slice (some ⟨b, 0, none⟩) (U.row.length + 1) bc, row := U.row ++ [⟨i, x⟩] }) := (by
                       rw [← HV.out] at h2 h3
                       rw [← HSs.out] at h1
                       first
                       | exact HRow.out.1.add HQ.out (HA1.out _) h1 h2 h3 hl
                       | exact HRow.out.1.add HQ.out (HA2.out _) h1 h2 h3 hl
                       | exact HRow.out.1.add HQ.out (HA3.out _) h1 h2 h3 hl
                       | exact HRow.out.1.add HQ.out (HA4.out _) h1 h2 h3 hl)
                     have d1 : w4.cell? ⟨U.u, 1, none⟩ = some U.rv := cell_of_row _ _ 1 _ _ _ H4.out.1
                     have e4 : w4.frozen? ⟨U.u, 1, none⟩ = false := frozen_of_row _ _ 1 _ _ H4.out.1
                     clear h1 h2 h3 y1 y1a))
              all_goals
                obtain ⟨w5, hw5⟩ : ∃ w5, w4.setCell ⟨U.u, 1, none⟩ (.slice (some ⟨b, 0, none⟩) (U.row.length + 1) bc) = w5 := ⟨_, rfl⟩
                rw [hw5] at H4 ⊢
                clear d1 e4 hw5
                go_wp2
                go_ret
                refine ⟨rfl, _, H4.out.2.1, ⟨(below_fr H3.out _).trans H4.out.2.2.fr (fun k e => .inl e), fun k e => (H4.out.2.2.al k e).imp id (fun e => Nat.le_trans H3.out.size e), rfl, rfl⟩, hen, by first | rfl | rw [if_pos rfl]⟩
set_option maxRecDepth 100000 in
theorem rxmark_any (w : World) (U : RTx) (hU : RTxAt w U) : Calls Tryz.prog 61 #[.pointer (some ⟨U.u, 0, none⟩)] w fun e w' => e = .returned (if U.ends then .tuple #[.int .i64 0, .int .i64 61] else .tuple #[.int .i64 (U.row.length : Nat), .int .i64 0]) ∧ Below w.heap.size w w' := by
  have c2 : w.cell? ⟨U.u, 2, none⟩ = some (.bool U.ends) := hU.cell 2
  obtain ⟨aa, ac, ha, _⟩ := hU.at_
  have c1 : w.cell? ⟨U.u, 1, none⟩ = some (.slice aa U.row.length ac) := by rw [hU.cell 1, ← ha]; rfl
  obtain ⟨n, hn⟩ : ∃ n, U.row.length = n := ⟨_, rfl⟩
  rw [hn] at c1 ⊢
  clear hU ha hn
  cases hen : U.ends with
  | true =>
    rw [hen] at c2
    go_enter Tryz.func61, Tryz.ntmps61
    go_wp2
    go_ret2
    exact ⟨rfl, Below.refl _ _⟩
  | false =>
    rw [hen] at c2
    go_enter Tryz.func61, Tryz.ntmps61
    go_wp2
    go_ret2
    exact ⟨rfl, Below.refl _ _⟩
set_option maxRecDepth 100000 in
theorem rxabort_any (w : World) (U : RTx) (hU : RTxAt w U) : Calls Tryz.prog 43 #[.pointer (some ⟨U.u, 0, none⟩)] w fun e w' => e = .returned (.tuple #[]) ∧ RTxAt w' { U with ends := true } ∧ UMv w U w' { U with ends := true } := by
  have c2 : w.cell? ⟨U.u, 2, none⟩ = some (.bool U.ends) := hU.cell 2
  have f2 : w.frozen? ⟨U.u, 2, none⟩ = false := hU.frozen 2
  have x : Fr (fun k => k = U.u) w (w.setCell ⟨U.u, 2, none⟩ (.bool true)) := Fr.set
  have HD : Hid (RTxAt (w.setCell ⟨U.u, 2, none⟩ (.bool true)) { U with ends := true } ∧ UMv w U (w.setCell ⟨U.u, 2, none⟩ (.bool true)) { U with ends := true }) :=
    ⟨⟨heap_setCell_same _ _ _ _ _ _ hU.box, owns_fr hU.row x (fun k hk e => own_apartX hU.row hU.box (by decide) (by rw [hk, e])), hU.len, hU.each⟩, ⟨x.mono (fun k e => .inl e), fun k hk => .inl hk, rfl, rfl⟩⟩
  clear hU x
  go_enter Tryz.func43, Tryz.ntmps43
  go_wp2
  go_end0
  exact ⟨rfl, HD.out.1, HD.out.2⟩
end Go.Proofs.YtflienghgobmoaaGreatDoor

namespace Go.Proofs.YtflienghgobmoaaGreatDoor
open Go.RowKit Rec
/-- a copy of a row, by an append to nothing -/
theorem wp_cpyX {ops : Array Oper} {rest : List Oper} {o : Oper} {a : Act} {Q : Exit → Act → World → Prop} {w : World} (hgd : o.guard = none) (s x : Operand) (t : TypeId)
    (ho : o.op = .call { callee := .builtin .append, args := #[s, x], argTypes := #[t, t] }) (hty : o.type = t) (hz0 : ∀ (w : World) (a : Option Addr) (c : Nat), (Builtin.append_ #[t, t] t #[.slice none 0 0, .slice a 0 c]).run Tryz.prog w = .ok (.slice none 0 0) w)
    (e : TypeId) (i0 : TypeInfo) (z : Value) (size bytes : Nat) (ht : Tryz.prog.underlying t = some (.slice e)) (hi : Tryz.prog.info? e = some i0) (hz : i0.zero = some z) (hsize : i0.size = size) (hby : i0.bytes = bytes) (hzs : z.cells.size = size) (hsz : 0 < size)
    (hs : a.eval s = .slice none 0 0) (v : Value) (n : Nat) (xs : List Value) (hx : a.eval x = v) (hv : w.ownsRow 0 e size v n xs) (h1 : ∀ u ∈ xs, u.oneCell' = true) (h63 : n ≤ maxLen) (h47 : n * bytes ≤ 140737488355328)
    (h : ∀ u w', w'.ownsRow 0 e size u n xs → (∀ k, u.ownBlock = some k → w.heap.size ≤ k) → (∃ ua uc, u = .slice ua n uc ∧ n ≤ uc ∧ (n = 0 ∨ ∃ g, ua = some ⟨g, 0, none⟩)) → Below w.heap.size w w' → wpList Tryz.prog ops Q rest (a.put o.dst u) w') : wpList Tryz.prog ops Q (o :: rest) a w := by
  by_cases h0 : n = 0
  · subst h0
    have hxs : xs = [] := List.eq_nil_of_length_eq_zero (by rw [hv.1, Nat.zero_mul])
    obtain ⟨va, vc, rfl, _⟩ := owns_slice hv
    refine wpList_plain hgd fun K hK => ?_
    unfold Oper.wp execOp
    simp only [ho, hty, resolve, invoke, builtin, Sem.run_bind, Sem.run_pure, Result.andThen_ok, List.map_toArray, List.map_cons, List.map_nil, hs, hx, hz0 w va vc]
    exact hK _ _ (h _ w (by rw [hxs]; exact ⟨by simp, .inl ⟨rfl, rfl⟩⟩) (fun k e => by cases e) ⟨none, 0, rfl, Nat.le_refl _, .inl rfl⟩ (Below.refl _ _))
  · obtain ⟨va, cap, rfl, _, hg, _⟩ := owns_slice hv
    obtain ⟨g, rfl⟩ := hg.resolve_left h0
    refine wp_own hgd s x t ho e i0 z size bytes ht hi hz hsize hby hzs hsz (.slice none 0 0) 0 [] hs ⟨by simp, .inl ⟨rfl, rfl⟩⟩ ⟨g, 0, none⟩ n cap xs hx (by omega) hv.1 (hv.cells rfl) h1 (by omega) (by rw [Nat.zero_add]; exact h47) ?_
    intro g2 cap2 w2 r1 r2 r3
    rw [Nat.zero_add, List.nil_append] at r1
    rw [Nat.zero_add]
    have hc : n ≤ cap2 := by
      rcases r1.2 with ⟨e2, _⟩ | ⟨_, _, _, e2, _, _, h3, _⟩
      · cases e2
      · cases e2; exact h3
    exact h _ w2 r1 (fun k e2 => by cases e2; exact r3.elim (fun e => by cases e) id) ⟨_, _, rfl, hc, .inr ⟨_, rfl⟩⟩ (r2.below _ (fun k e => by cases e) (Nat.le_refl _))
theorem app_zeroD (w : World) (a : Option Addr) (c : Nat) : (Builtin.append_ #[117, 117] 117 #[.slice none 0 0, .slice a 0 c]).run Tryz.prog w = .ok (.slice none 0 0) w := by
  obtain ⟨i0, hi, hz0, hz1, hz2⟩ := info_parts infoDn
  cases a <;> simp [Builtin.append_, run_underlying Tryz.underlying117, sizeOf, typeInfo, hi, Builtin.lenOf, Builtin.firstCells, loadCells, loadCellsFrom]
/-- the head of a row -/
theorem owns_pre {w : World} {B e size n i c : Nat} {a : Option Addr} {xs : List Value} (h : w.ownsRow B e size (.slice a n c) n xs) (hi : i ≤ n) (h0 : n ≠ 0) : w.ownsRow B e size (.slice a i c) i (xs.take (i * size)) := by
  obtain ⟨hl, h⟩ := h
  rcases h with ⟨_, e2⟩ | ⟨g, cap, cur, hv, hB, hg, h2, h3, h4, h5⟩
  · exact absurd e2 h0
  · cases hv
    have hm : i * size ≤ n * size := Nat.mul_le_mul_right _ hi
    refine ⟨by rw [List.length_take, hl]; omega, .inr ⟨g, c, cur, rfl, hB, hg, by omega, h3, h4, ?_⟩⟩
    rw [← h5, List.take_take, Nat.min_eq_left hm]
theorem dn_take : ∀ (l : List Dn) (i : Nat), (l.flatMap Dn.cs).take (i * 2) = (l.take i).flatMap Dn.cs
  | [], i => by simp
  | q :: r, 0 => by simp
  | q :: r, i + 1 => by
    rw [List.take_succ_cons, List.flatMap_cons, List.flatMap_cons, show (i + 1) * 2 = (Dn.cs q).length + i * 2 by simp [Dn.cs]; omega, List.take_length_add_append, dn_take r i]
theorem dn_one (l : List Dn) : ∀ u ∈ l.flatMap Dn.cs, u.oneCell' = true := fun u hu => by
  obtain ⟨q, _, hq⟩ := List.mem_flatMap.1 hu
  simp [Dn.cs] at hq
  rcases hq with rfl | rfl <;> rfl
def rbE (U : RTx) (i : Int) : Int := if U.ends then 61 else if i < 0 ∨ (U.row.length : Int) < i then 62 else 0
set_option maxRecDepth 100000 in
set_option maxHeartbeats 4000000 in
theorem rxback_any (w : World) (U : RTx) (hU : RTxAt w U) (i : Int) : Calls Tryz.prog 63 #[.pointer (some ⟨U.u, 0, none⟩), .int .i64 i] w fun e w' => e = .returned (.int .i64 (rbE U i)) ∧ ∃ U', RTxAt w' U' ∧ UMv w U w' U' ∧ U'.ends = U.ends ∧ U'.row = if rbE U i = 0 then U.row.take i.toNat else U.row := by
  have c2 : w.cell? ⟨U.u, 2, none⟩ = some (.bool U.ends) := hU.cell 2
  obtain ⟨aa, ac, ha, _⟩ := hU.at_
  have c1 : w.cell? ⟨U.u, 1, none⟩ = some (.slice aa U.row.length ac) := by rw [hU.cell 1, ← ha]; rfl
  have HU : Hid (RTxAt w U ∧ U.rv = .slice aa U.row.length ac) := ⟨hU, ha⟩
  have HSm : Hid (∀ {E : Int}, E ≠ 0 → ∃ U', RTxAt w U' ∧ UMv w U w U' ∧ U'.ends = U.ends ∧ U'.row = if E = 0 then U.row.take i.toNat else U.row) := fun hE => ⟨U, HU.out.1, UMv.on (Below.refl _ _), rfl, by rw [if_neg hE]⟩
  have hl := hU.len
  obtain ⟨n, hn⟩ : ∃ n, U.row.length = n := ⟨_, rfl⟩
  have HN : Hid (U.row.length = n) := hn
  obtain ⟨E, hE⟩ : ∃ E, rbE U i = E := ⟨_, rfl⟩
  rw [hE]
  unfold rbE at hE
  rw [hn] at c1 hl hE
  clear hU ha hn
  cases hen : U.ends with
  | true =>
    rw [hen] at c2 HSm
    rw [if_pos hen] at hE
    subst hE
    go_enter Tryz.func63, Tryz.ntmps63
    go_wp2
    go_ret
    exact ⟨rfl, HSm.out (E := 61) (by decide)⟩
  | false =>
    rw [hen] at c2 HSm
    rw [if_neg (by rw [hen]; simp)] at hE
    by_cases h0 : i < 0
    · rw [if_pos (.inl h0)] at hE
      subst hE
      go_enter Tryz.func63, Tryz.ntmps63
      go_wp2
      go_ret
      exact ⟨rfl, HSm.out (E := 62) (by decide)⟩
    · by_cases h1 : (n : Int) < i
      · rw [if_pos (.inr h1)] at hE
        subst hE
        go_enter Tryz.func63, Tryz.ntmps63
        go_wp2
        go_ret
        exact ⟨rfl, HSm.out (E := 62) (by decide)⟩
      · rw [if_neg (by omega)] at hE
        subst hE
        obtain ⟨m, rfl⟩ : ∃ m : Nat, i = (m : Int) := ⟨i.toNat, by omega⟩
        rw [Int.toNat_natCast]
        have hmn : m ≤ n := by omega
        have HRow : Hid (w.ownsRow 0 132 2 (.slice aa m ac) m ((U.row.take m).flatMap Dn.cs) ∧ n ≤ ac) := by
          have h := HU.out.1.row
          rw [HU.out.2, HN.out] at h
          by_cases hz : n = 0
          · have e0 : m = 0 := by omega
            subst hz e0
            exact ⟨⟨by simp, by rcases h.2 with ⟨e1, _⟩ | ⟨g, cap, cur, e1, q1, q2, q3, q4, q5, q6⟩
                                · exact .inl ⟨e1, rfl⟩
                                · exact .inr ⟨g, cap, cur, e1, q1, q2, q3, q4, q5, by simp⟩⟩, Nat.zero_le _⟩
          · have := owns_pre h hmn hz
            rw [dn_take] at this
            refine ⟨this, ?_⟩
            rcases h.2 with ⟨_, e2⟩ | ⟨g, cap, cur, e1, q1, q2, q3, q4, q5, q6⟩
            · exact absurd e2 hz
            · cases e1; exact q3
        have hac := HRow.out.2
        have HF : Hid (w.frozen? ⟨U.u, 1, none⟩ = false) := HU.out.1.frozen 1
        obtain ⟨i1, j1, j2, j3, j4⟩ := info_parts infoDn
        clear h0 h1
        go_enter Tryz.func63, Tryz.ntmps63
        go_upto_region 7 with (at_builtin; refine wp_cpyX rfl (.tmp 21) (.tmp 27) 117 rfl rfl app_zeroD 132 i1 _ 2 24 Tryz.underlying117 j1 j2 j3 j4 rfl (by decide) rfl (.slice aa m ac) m ((U.row.take m).flatMap Dn.cs) rfl HRow.out.1 (dn_one _) (by unfold maxLen; omega) (by omega) ?_
                               intro v w1 h1 h2 h3 h4
                               obtain ⟨ua, uc, rfl, _⟩ := h3
                               go_frame
                               have H1 : Hid (w1.ownsRow 0 132 2 (.slice ua m uc) m ((U.row.take m).flatMap Dn.cs) ∧ (∀ k, (Value.slice ua m uc).ownBlock = some k → w.heap.size ≤ k) ∧ Below w.heap.size w w1) := ⟨h1, h2, h4⟩
                               clear h1 h2 h4)
        have d1 : w1.cell? ⟨U.u, 1, none⟩ = some (.slice aa n ac) := (below_fr H1.out.2.2 (fun _ => False)).cell c1 (fun e => e)
        have e1 : w1.frozen? ⟨U.u, 1, none⟩ = false := (HU.out.1.on H1.out.2.2).frozen 1
        have HP : Hid (RTxAt (w1.setCell ⟨U.u, 1, none⟩ (.slice ua m uc)) { U with rv := .slice ua m uc, row := U.row.take m } ∧ UMv w U (w1.setCell ⟨U.u, 1, none⟩ (.slice ua m uc)) { U with rv := .slice ua m uc, row := U.row.take m }) :=
          RTxAt.put (L := U.row.take m) (by rw [List.length_take, HN.out]; omega) (HU.out.1.on H1.out.2.2).box H1.out.1 (below_fr H1.out.2.2 _) (by omega) (fun q hq => HU.out.1.each q (List.mem_of_mem_take hq)) (fun k hk => .inr (H1.out.2.1 k hk))
        clear c1 c2
        go_wp2
        go_ret
        exact ⟨rfl, _, HP.out.1, HP.out.2, hen, by first | rfl | rw [if_pos rfl]⟩
end Go.Proofs.YtflienghgobmoaaGreatDoor

import Derived.Test.YtpheajiepnjhdaaDoorKWBh
import Derived.Test.YtpheajiepnjhdaaDoorWFx
namespace Go.Proofs.YtpheajiepnjhdaaDoor
open Go.RowKit Rec

/-- what a put does -/
def AD.do (a : AD) (b x : Int) (fl : Bool) : AD := if fl then a.flush else a.write (b % a.nb).toNat (one x)
end Go.Proofs.YtpheajiepnjhdaaDoor

namespace Go.Proofs.YtpheajiepnjhdaaDoor
open Go.RowKit Rec

/-- block i full of i -/
def frs (m : Nat) : List Int := (List.range m).flatMap (fun i : Nat => one (i : Int))
theorem frs_succ (m : Nat) : frs (m + 1) = frs m ++ one (m : Int) := by
  unfold frs
  rw [List.range_succ, List.flatMap_append]; simp
theorem frs_length (m : Nat) : (frs m).length = 512 * m := by
  induction m with
  | zero => rfl
  | succ m ih => rw [frs_succ, List.length_append, ih, one_length]; omega
theorem nth_frs (m i : Nat) (h : i < 512 * m) : nth (frs m) i = ((i / 512 : Nat) : Int) := by
  induction m with
  | zero => omega
  | succ m ih =>
    rw [frs_succ, nth_app, frs_length]
    by_cases h2 : i < 512 * m
    · rw [if_pos h2]; exact ih h2
    · rw [if_neg h2, one, nth_rep _ _ _ (by omega), show i / 512 = m by omega]
theorem wf_frs (m : Nat) (hm : m ≤ 256) : ∀ i, 0 ≤ nth (frs m) i ∧ nth (frs m) i < 256 := fun i => by
  by_cases h : i < 512 * m
  · rw [nth_frs m i h]; omega
  · rw [nth_out _ _ (by rw [frs_length]; omega)]; omega
theorem blk_frs (m i : Nat) (hi : i < m) : bck (frs m) i = one (i : Int) := by
  refine ext_nth (by rw [blk_length (frs_length m) hi, one_length]) fun j hj => ?_
  rw [blk_length (frs_length m) hi] at hj
  rw [nth_blk (frs_length m) hi j hj, nth_frs m _ (by omega), one, nth_rep _ _ _ hj, show (512 * i + j) / 512 = i by omega]
end Go.Proofs.YtpheajiepnjhdaaDoor

namespace Go.Proofs.YtpheajiepnjhdaaDoor
open Go.RowKit Rec

/-- an act among the arguments -/
structure ActR where
  kind : Int
  b : Int
  a : Option Addr
  c : Nat
  x : List Int
def ActR.cells (q : ActR) : List Value := [.int .i64 q.kind, .int .i64 q.b, .slice q.a q.x.length q.c]
/-- what of an act counts -/
def ActR.abs (q : ActR) : Int × Int × List Int := (q.kind, q.b, q.x)
/-- acts in a row of one's own -/
def OkAct (w : World) (m : Nat) (q : ActR) : Prop := (q.kind = 2 ∧ q.a = none ∧ q.c = 0 ∧ q.x = []) ∨ (q.kind = 1 ∧ 0 ≤ q.b ∧ q.b < m ∧ q.x.length = 512 ∧ ∃ g cap, q.a = some ⟨g, 0, none⟩ ∧ OwnB w g cap q.x)
structure AcR (w : World) (m : Nat) (v : Value) (L : List ActR) : Prop where
  row : w.ownsRow 0 63 3 v L.length (L.flatMap ActR.cells)
  each : ∀ q ∈ L, OkAct w m q
theorem OkAct.on {w w' : World} {m : Nat} {q : ActR} (h : OkAct w m q) (x : Below w.heap.size w w') : OkAct w' m q := by
  rcases h with h | ⟨h1, h2, h3, h4, g, cap, h5, h6⟩
  · exact .inl h
  · exact .inr ⟨h1, h2, h3, h4, g, cap, h5, h6.on x⟩
theorem OkAct.fr {S : Nat → Prop} {w w' : World} {m : Nat} {q : ActR} (h : OkAct w m q) (x : Fr S w w') (hS : ∀ g cap, OwnB w g cap q.x → ¬ S g) : OkAct w' m q := by
  rcases h with h | ⟨h1, h2, h3, h4, g, cap, h5, h6⟩
  · exact .inl h
  · exact .inr ⟨h1, h2, h3, h4, g, cap, h5, h6.fr x (hS g cap h6)⟩
theorem AcR.on {w w' : World} {m : Nat} {v : Value} {L : List ActR} (h : AcR w m v L) (x : Below w.heap.size w w') : AcR w' m v L :=
  ⟨owns_fr h.row (below_fr x (fun k => w.heap.size ≤ k)) (fun _ hk => Nat.not_le.2 (owns_block h.row hk)), fun q hq => (h.each q hq).on x⟩
theorem flat3 (f : ActR → List Value) (l : List ActR) (k : Nat) (hk : k < l.length) (j : Nat) (hj : j < 3) (hf : ∀ p, (f p).length = 3 := by intro p; rfl) : (l.flatMap f)[k * 3 + j]? = (f l[k])[j]? := by
  induction l generalizing k with
  | nil => simp at hk
  | cons p l ih =>
    rw [List.flatMap_cons]
    cases k with
    | zero => rw [List.getElem?_append_left (by rw [hf]; omega)]; simp
    | succ k =>
      rw [List.getElem?_append_right (by rw [hf]; omega), hf, show (k + 1) * 3 + j - 3 = k * 3 + j by omega, ih k (by simpa using hk)]; rfl

theorem ownA_ne {w : World} {g cap : Nat} {x : List Int} {v : Value} {n : Nat} {xs : List Value} (hO : OwnB w g cap x) (h : w.ownsRow 0 63 3 v n xs) : ¬ v.ownBlock = some g := fun e => by
  obtain ⟨cur, hg, _⟩ := hO.row
  rcases h.2 with ⟨rfl, _⟩ | ⟨g', cap', cur', rfl, _, hg', _⟩
  · cases e
  · cases e
    rw [hg] at hg'
    cases hg'
theorem flatA (l : List Ac) (k : Nat) (hk : k < l.length) (j : Nat) (hj : j < 3) : (l.flatMap Ac.cells)[k * 3 + j]? = (Ac.cells l[k])[j]? := by
  have hf : ∀ p, (Ac.cells p).length = 3 := by intro p; rfl
  induction l generalizing k with
  | nil => simp at hk
  | cons p l ih =>
    rw [List.flatMap_cons]
    cases k with
    | zero => rw [List.getElem?_append_left (by rw [hf]; omega)]; simp
    | succ k =>
      rw [List.getElem?_append_right (by rw [hf]; omega), hf, show (k + 1) * 3 + j - 3 = k * 3 + j by omega, ih k (by simpa using hk)]; rfl
theorem AcR.frs {S : Nat → Prop} {w w' : World} {m : Nat} {v : Value} {L : List ActR} (h : AcR w m v L) (x : Fr S w w') (h1 : ∀ k, v.ownBlock = some k → ¬ S k) (h2 : ∀ q ∈ L, ∀ p, q.a = some p → ¬ S p.block) : AcR w' m v L :=
  ⟨owns_fr h.row x h1, fun q hq => by
    rcases h.each q hq with z | ⟨z1, z2, z3, z4, g, cap, z5, z6⟩
    · exact .inl z
    · exact .inr ⟨z1, z2, z3, z4, g, cap, z5, z6.fr x (h2 q hq _ z5)⟩⟩
/-- within the tape's copying -/
structure TpW (w wr : World) (m : Nat) (v : Value) (T : List (Int × Int × List Int)) (k : Nat) (L : List ActR) : Prop where
  row : AcR wr m v L
  len : L.length = k
  ab : L.map ActR.abs = T.take k
  own : ∀ j, v.ownBlock = some j → w.heap.size ≤ j
  adr : ∀ q ∈ L, ∀ p, q.a = some p → w.heap.size ≤ p.block
  bel : Below w.heap.size w wr
theorem TpW.next {w wr wa wb : World} {m g cap k : Nat} {v : Value} {T : List (Int × Int × List Int)} {L : List ActR} {q : Int × Int × List Int} {r : ActR} (h : TpW w wr m v T k L) (hq : T[k]? = some q) (ha : Below wr.heap.size wr wa) (hr : OkAct wa m r) (hab : r.abs = q) (hra : ∀ p, r.a = some p → w.heap.size ≤ p.block)
    (ho : wb.ownsRow 0 63 3 (.slice (some ⟨g, 0, none⟩) (k + 1) cap) (k + 1) (L.flatMap ActR.cells ++ r.cells)) (hf : Fr (fun j => v.ownBlock = some j) wa wb) (hg : v.ownBlock = some g ∨ wa.heap.size ≤ g) : TpW w wb m (.slice (some ⟨g, 0, none⟩) (k + 1) cap) T (k + 1) (L ++ [r]) := by
  refine ⟨⟨by rw [List.length_append, List.flatMap_append, h.len]; simpa using ho, fun x hx => ?_⟩, by rw [List.length_append, h.len]; rfl, ?_, fun j hj => ?_, fun x hx => ?_, ?_⟩
  · rcases List.mem_append.1 hx with hx | hx
    · exact ((h.row.each x hx).on ha).fr hf (fun g cap hO => ownA_ne hO (h.row.on ha).row)
    · rw [List.mem_singleton] at hx; subst hx
      exact hr.fr hf (fun g cap hO => ownA_ne hO (h.row.on ha).row)
  · rw [List.map_append, h.ab, List.take_add_one, hq]
    show _ ++ [r.abs] = _ ++ [q]
    rw [hab]
  · cases hj
    exact hg.elim (h.own g) (fun e => Nat.le_trans h.bel.size (Nat.le_trans ha.size e))
  · rcases List.mem_append.1 hx with hx | hx
    · exact h.adr x hx
    · rw [List.mem_singleton] at hx; subst hx; exact hra
  · exact (h.bel.trans (ha.mono h.bel.size)).trans (hf.below _ h.own (Nat.le_trans h.bel.size ha.size))
theorem wp_makeA {ops : Array Oper} {rest : List Oper} {o : Oper} {a : Act} {Q : Exit → Act → World → Prop} {w : World} (hg : o.guard = none) (l c : Operand) (hop : o.op = Op.makeSlice 60 l c)
    (kl kc : IntKind) (C : Int) (n : Nat) (hl : a.eval l = .int kl 0) (hc : a.eval c = .int kc C) (hC : C = (n : Int)) (hn : n ≤ 4294967296)
    (hK : ∀ w', w'.ownsRow 0 63 3 (.slice (some ⟨w.heap.size, 0, none⟩) 0 n) 0 [] → Below w.heap.size w w' → wpList Tryd.prog ops Q rest (a.put o.dst (.slice (some ⟨w.heap.size, 0, none⟩) 0 n)) w') :
    wpList Tryd.prog ops Q (o :: rest) a w := by
  obtain ⟨i0, hi, hz0, hz1, hz2⟩ := info_parts infoAct
  refine wpList_make_own w hg l c 60 hop 0 63 i0 _ 3 Tryd.underlying60 hi hz0 hz1 kl kc C n hl hc hC (by rw [hz2]; omega) (by unfold maxLen; omega) (Nat.zero_le _) ?_
  intro w' h1 h2
  exact hK w' h1 ⟨h2.os, h2.tape, h2.output, h2.size, fun k hk => h2.block k hk (by simp)⟩
set_option maxRecDepth 100000 in
set_option maxHeartbeats 1600000 in
theorem tape0_any (w : World) (D : Dk) (h : Disk w D) : Calls Tryd.prog 30 #[.pointer (some ⟨D.d, 0, none⟩), .int .i64 0] w fun e w' => ∃ v L, e = .returned v ∧ AcR w' D.nb v L ∧ L.map ActR.abs = D.abs.T ∧ Below w.heap.size w w' ∧ (∀ k, v.ownBlock = some k → w.heap.size ≤ k) ∧ ∀ q ∈ L, ∀ p, q.a = some p → w.heap.size ≤ p.block := by
  obtain ⟨ta, tc, hv, hpc, hga, hcc⟩ := owns_slice h.tap
  have C3 : w.cell? ⟨D.d, 3, none⟩ = some (.slice ta D.tap.length tc) := by rw [← hv]; exact h.cell 3
  have htl := h.tl
  have HD : Hid (Disk w D) := h
  have HV : Hid (D.tv = .slice ta D.tap.length tc ∧ (D.tap.length = 0 ∨ ∃ g, ta = some ⟨g, 0, none⟩)) := ⟨hv, hga⟩
  obtain ⟨i1, j1, j2, j3, j4⟩ := info_parts infoAct
  clear h hcc hv hga
  go_enter Tryd.func30, Tryd.ntmps30
  go_wp2
  go_region
  have HB0 : Hid (Below w.heap.size w w.drew) := (Below.refl _ w).drew
  have C3d : w.drew.cell? ⟨D.d, 3, none⟩ = some (.slice ta D.tap.length tc) := (below_fr HB0.out (fun _ => False)).cell C3 (fun e => e)
  go_wp2_with (at_make; refine wp_makeA rfl _ _ rfl _ _ _ D.tap.length rfl rfl (by rfl) htl ?_; intro w1 ho hb; have H1 : Hid (TpW w w1 D.nb (.slice (some ⟨w.heap.size, 0, none⟩) 0 D.tap.length) D.abs.T 0 []) := ⟨⟨ho, fun q hq => by cases hq⟩, rfl, rfl, (fun j hj => by cases hj; exact Nat.le_refl _), (fun q hq => by cases hq), HB0.out.trans hb⟩; clear ho hb)
  clear C3 C3d
  go_loopw [6, 8, 27, 28, 29, 30, 31, 32, 33, 34, 35, 36, 37, 38, 39] (fun v _ i _ _ _ _ _ _ _ _ _ _ _ _ wr => ∃ k : Nat, k ≤ D.tap.length ∧ i = .int .i64 k ∧ ∃ L, TpW w wr D.nb v D.abs.T k L) (fun _ _ i _ _ _ _ _ _ _ _ _ _ _ _ _ => D.tap.length - (intOf i).toNat)
  case atStart => exact ⟨0, Nat.zero_le _, rfl, _, H1.out⟩
  case round =>
    obtain ⟨k, hk, rfl, L, hS⟩ := hrel
    have HS : Hid (TpW w wr D.nb u6 D.abs.T k L) := hS
    clear hS H1
    by_cases hlt : k < D.tap.length
    · have hd2 := HD.out.on HS.out.bel
      obtain ⟨ta', tc', hv', _, _, hcc⟩ := owns_slice hd2.tap
      rw [HV.out.1] at hv'
      cases hv'
      obtain ⟨gp, rfl⟩ := HV.out.2.resolve_left (by omega)
      have flat : ∀ j, j < 3 → (D.tap.flatMap Ac.cells)[k * 3 + j]? = (Ac.cells D.tap[k])[j]? := fun j hj => flatA D.tap k hlt j hj
      have d0 : wr.cell? ⟨gp, k * 3, none⟩ = some (.int .i64 (D.tap[k]).kind) := (hcc gp 0 rfl).2.1 _ _ (flat 0 (by omega))
      have d1 : wr.cell? ⟨gp, k * 3 + 1, none⟩ = some (.int .i64 (D.tap[k]).b) := (hcc gp 0 rfl).2.1 _ _ (flat 1 (by omega))
      have d2 : wr.cell? ⟨gp, k * 3 + 2, none⟩ = some (D.tap[k]).v := (hcc gp 0 rfl).2.1 _ _ (flat 2 (by omega))
      have HQ : Hid (D.abs.T[k]? = some ((D.tap[k]).kind, (D.tap[k]).b, (D.tap[k]).x) ∧ AcOk wr D D.tap[k]) := ⟨by simp [Dk.abs, hlt], hd2.tapb _ (List.getElem_mem hlt)⟩
      clear hcc flat hd2
      generalize D.tap[k] = q at *
      obtain ⟨qk, qb, qv, qx⟩ := q
      have hok := HQ.out.2
      rcases hok with ⟨z1, z2, z3, z4, g, cap, z5, z6, z7⟩ | ⟨z1, z2, z5, z4⟩
      · simp only at z1 z2 z3 z4 z5 d0 d1 d2
        subst z1 z5
        have HOx : Hid (OwnB wr g cap qx) := z6
        have HXl : Hid (qx.length = 512) := z4
        clear z4 z6 z7
        have HA : Hid (Below wr.heap.size wr (wr.alloc (.cells #[.int .i64 1, .int .i64 qb, .slice (some ⟨g, 0, none⟩) 512 cap] 63))) := (Below.refl _ _).alloc (Nat.le_refl _) _
        have HR : Hid ((wr.alloc (.cells #[.int .i64 1, .int .i64 qb, .slice (some ⟨g, 0, none⟩) 512 cap] 63)).heap[wr.heap.size]? = some (.cells #[.int .i64 1, .int .i64 qb, .slice (some ⟨g, 0, none⟩) 512 cap] 63 (0, 0))) := heap_alloc_new wr _
        go_upto_region 6 with fail
        generalize wr.alloc (.cells #[.int .i64 1, .int .i64 qb, .slice (some ⟨g, 0, none⟩) 512 cap] 63) = wa at *
        have S2 : wa.cell? ⟨wr.heap.size, 2, none⟩ = some (.slice (some ⟨g, 0, none⟩) 512 cap) := cell_of_row _ _ _ _ _ _ HR.out
        go_upto_region 7 with (go_at_call 60; refine (bclone_any _ ⟨g, 0, none⟩ 512 cap qx (HOx.out.on HA.out).bytes HXl.out (by omega)).mono ?_; rintro e w2 ⟨g2, cap2, rfl, hg2, ho2, hb2⟩; have H2 : Hid ((wa.heap.size ≤ g2 ∧ OwnB w2 g2 cap2 qx) ∧ Below wr.heap.size wr w2) := ⟨⟨hg2, ho2⟩, HA.out.trans (hb2.mono HA.out.size)⟩; have HR2 : Hid (w2.heap[wr.heap.size]? = some (.cells #[.int .i64 1, .int .i64 qb, .slice (some ⟨g, 0, none⟩) 512 cap] 63 (0, 0))) := (below_fr hb2 (fun _ => False)).heap HR.out (fun e => e); have V2 : w2.cell? ⟨wr.heap.size, 2, none⟩ = some (.slice (some ⟨g, 0, none⟩) 512 cap) := cell_of_row _ _ _ _ _ _ HR2.out; have G2 := frozen_of_row _ _ 2 _ _ HR2.out; clear hg2 ho2 hb2)
        clear S2 d0 d1 d2
        have HR3 : Hid ((w2.setCell ⟨wr.heap.size, 2, none⟩ (.slice (some ⟨g2, 0, none⟩) 512 cap2)).heap[wr.heap.size]? = some (.cells #[.int .i64 1, .int .i64 qb, .slice (some ⟨g2, 0, none⟩) 512 cap2] 63 (0, 0))) := heap_setCell_same _ _ 2 _ _ _ HR2.out
        have HB3 : Hid (Below wr.heap.size wr (w2.setCell ⟨wr.heap.size, 2, none⟩ (.slice (some ⟨g2, 0, none⟩) 512 cap2))) := H2.out.2.grown grown_set H2.out.2.size (by intro k hk; cases hk; exact Nat.le_refl _)
        have HO3 : Hid (OkAct (w2.setCell ⟨wr.heap.size, 2, none⟩ (.slice (some ⟨g2, 0, none⟩) 512 cap2)) D.nb ⟨1, qb, some ⟨g2, 0, none⟩, cap2, qx⟩) := .inr ⟨rfl, z2, z3, HXl.out, g2, cap2, rfl, H2.out.1.2.fr (Fr.set (g := wr.heap.size)) (by have := heap_lt HR.out; have := H2.out.1.1; omega)⟩
        generalize w2.setCell ⟨wr.heap.size, 2, none⟩ (.slice (some ⟨g2, 0, none⟩) 512 cap2) = w3 at *
        have X0 : w3.cell? ⟨wr.heap.size, 0, none⟩ = some (.int .i64 1) := cell_of_row _ _ _ _ _ _ HR3.out
        have X1 : w3.cell? ⟨wr.heap.size, 1, none⟩ = some (.int .i64 qb) := cell_of_row _ _ _ _ _ _ HR3.out
        have X2 : w3.cell? ⟨wr.heap.size, 2, none⟩ = some (.slice (some ⟨g2, 0, none⟩) 512 cap2) := cell_of_row _ _ _ _ _ _ HR3.out
        have HA4 : Hid (Below w3.heap.size w3 (w3.alloc (.cells #[.int .i64 1, .int .i64 qb, .slice (some ⟨g2, 0, none⟩) 512 cap2] 63))) := (Below.refl _ _).alloc (Nat.le_refl _) _
        have HN4 : Hid (∀ j u, (ActR.cells ⟨1, qb, some ⟨g2, 0, none⟩, cap2, qx⟩)[j]? = some u → (w3.alloc (.cells #[.int .i64 1, .int .i64 qb, .slice (some ⟨g2, 0, none⟩) 512 cap2] 63)).cell? ((⟨w3.heap.size, 0, none⟩ : Addr).add j) = some u) := news_of (heap_alloc_new w3 _) _ (by simp [ActR.cells, HXl.out])
        have HB4 : Hid (Below wr.heap.size wr (w3.alloc (.cells #[.int .i64 1, .int .i64 qb, .slice (some ⟨g2, 0, none⟩) 512 cap2] 63))) := HB3.out.trans (HA4.out.mono HB3.out.size)
        have HW4 : Hid ((w3.alloc (.cells #[.int .i64 1, .int .i64 qb, .slice (some ⟨g2, 0, none⟩) 512 cap2] 63)).ownsRow 0 63 3 u6 k (L.flatMap ActR.cells)) := by
          have e := (HS.out.row.on HB4.out).row
          rw [HS.out.len] at e; exact e
        go_wp2_with (at_builtin; refine wp_own rfl (.tmp 35) (.tmp 37) 60 rfl 63 i1 _ 3 40 Tryd.underlying60 j1 j2 j3 j4 rfl (by decide) u6 k (L.flatMap ActR.cells) rfl HW4.out ⟨w3.heap.size, 0, none⟩ 1 1 (ActR.cells ⟨1, qb, some ⟨g2, 0, none⟩, cap2, qx⟩) rfl (by decide) rfl HN4.out (by intro u hu; simp [ActR.cells] at hu; rcases hu with rfl | rfl | rfl <;> rfl) (by unfold maxLen; omega) (by omega) ?_; intro g' c' w5 ho hf hg; have H5 : Hid (TpW w w5 D.nb (.slice (some ⟨g', 0, none⟩) (k + 1) c') D.abs.T (k + 1) (L ++ [⟨1, qb, some ⟨g2, 0, none⟩, cap2, qx⟩])) := HS.out.next HQ.out.1 HB4.out (HO3.out.on HA4.out) rfl (fun p hp => by cases hp; exact Nat.le_trans HS.out.bel.size (Nat.le_trans HA.out.size H2.out.1.1)) ho hf hg; clear ho hf hg)
        exact ⟨⟨k + 1, hlt, rfl, _, H5.out⟩, by simp [intOf]; omega⟩
      · simp only at z1 z2 z4 z5 d0 d1 d2
        subst z1 z2 z5 z4
        have HA : Hid (Below wr.heap.size wr (wr.alloc (.cells #[.int .i64 2, .int .i64 0, .slice none 0 0] 63))) := (Below.refl _ _).alloc (Nat.le_refl _) _
        have HR : Hid ((wr.alloc (.cells #[.int .i64 2, .int .i64 0, .slice none 0 0] 63)).heap[wr.heap.size]? = some (.cells #[.int .i64 2, .int .i64 0, .slice none 0 0] 63 (0, 0))) := heap_alloc_new wr _
        go_upto_region 6 with fail
        generalize wr.alloc (.cells #[.int .i64 2, .int .i64 0, .slice none 0 0] 63) = wa at *
        have S2 : wa.cell? ⟨wr.heap.size, 2, none⟩ = some (.slice none 0 0) := cell_of_row _ _ _ _ _ _ HR.out
        go_upto_region 7 with (go_at_call 60; refine (bclone_nil _).mono ?_; rintro e w2 ⟨rfl, rfl⟩; have H2 : Hid (True ∧ Below wr.heap.size wr wa) := ⟨trivial, HA.out⟩; have HR2 : Hid (wa.heap[wr.heap.size]? = some (.cells #[.int .i64 2, .int .i64 0, .slice none 0 0] 63 (0, 0))) := HR.out; have V2 : wa.cell? ⟨wr.heap.size, 2, none⟩ = some (.slice none 0 0) := cell_of_row _ _ _ _ _ _ HR2.out; have G2 := frozen_of_row _ _ 2 _ _ HR2.out)
        clear S2 d0 d1 d2
        have HR3 : Hid ((wa.setCell ⟨wr.heap.size, 2, none⟩ (.slice none 0 0)).heap[wr.heap.size]? = some (.cells #[.int .i64 2, .int .i64 0, .slice none 0 0] 63 (0, 0))) := heap_setCell_same _ _ 2 _ _ _ HR.out
        have HB3 : Hid (Below wr.heap.size wr (wa.setCell ⟨wr.heap.size, 2, none⟩ (.slice none 0 0))) := H2.out.2.grown grown_set H2.out.2.size (by intro k hk; cases hk; exact Nat.le_refl _)
        have HO3 : Hid (OkAct (wa.setCell ⟨wr.heap.size, 2, none⟩ (.slice none 0 0)) D.nb ⟨2, 0, none, 0, []⟩) := .inl ⟨rfl, rfl, rfl, rfl⟩
        generalize wa.setCell ⟨wr.heap.size, 2, none⟩ (.slice none 0 0) = w3 at *
        have X0 : w3.cell? ⟨wr.heap.size, 0, none⟩ = some (.int .i64 2) := cell_of_row _ _ _ _ _ _ HR3.out
        have X1 : w3.cell? ⟨wr.heap.size, 1, none⟩ = some (.int .i64 0) := cell_of_row _ _ _ _ _ _ HR3.out
        have X2 : w3.cell? ⟨wr.heap.size, 2, none⟩ = some (.slice none 0 0) := cell_of_row _ _ _ _ _ _ HR3.out
        have HA4 : Hid (Below w3.heap.size w3 (w3.alloc (.cells #[.int .i64 2, .int .i64 0, .slice none 0 0] 63))) := (Below.refl _ _).alloc (Nat.le_refl _) _
        have HN4 : Hid (∀ j u, (ActR.cells ⟨2, 0, none, 0, []⟩)[j]? = some u → (w3.alloc (.cells #[.int .i64 2, .int .i64 0, .slice none 0 0] 63)).cell? ((⟨w3.heap.size, 0, none⟩ : Addr).add j) = some u) := news_of (heap_alloc_new w3 _) _ rfl
        have HB4 : Hid (Below wr.heap.size wr (w3.alloc (.cells #[.int .i64 2, .int .i64 0, .slice none 0 0] 63))) := HB3.out.trans (HA4.out.mono HB3.out.size)
        have HW4 : Hid ((w3.alloc (.cells #[.int .i64 2, .int .i64 0, .slice none 0 0] 63)).ownsRow 0 63 3 u6 k (L.flatMap ActR.cells)) := by
          have e := (HS.out.row.on HB4.out).row
          rw [HS.out.len] at e; exact e
        go_wp2_with (at_builtin; refine wp_own rfl (.tmp 35) (.tmp 37) 60 rfl 63 i1 _ 3 40 Tryd.underlying60 j1 j2 j3 j4 rfl (by decide) u6 k (L.flatMap ActR.cells) rfl HW4.out ⟨w3.heap.size, 0, none⟩ 1 1 (ActR.cells ⟨2, 0, none, 0, []⟩) rfl (by decide) rfl HN4.out (by intro u hu; simp [ActR.cells] at hu; rcases hu with rfl | rfl | rfl <;> rfl) (by unfold maxLen; omega) (by omega) ?_; intro g' c' w5 ho hf hg; have H5 : Hid (TpW w w5 D.nb (.slice (some ⟨g', 0, none⟩) (k + 1) c') D.abs.T (k + 1) (L ++ [⟨2, 0, none, 0, []⟩])) := HS.out.next HQ.out.1 HB4.out (HO3.out.on HA4.out) rfl (fun p hp => by cases hp) ho hf hg; clear ho hf hg)
        exact ⟨⟨k + 1, hlt, rfl, _, H5.out⟩, by simp [intOf]; omega⟩
    · obtain rfl : k = D.tap.length := by omega
      go_wp2
      go_ret
      exact ⟨_, L, rfl, HS.out.row, by rw [HS.out.ab, ← abs_tlen, List.take_length], HS.out.bel, HS.out.own, HS.out.adr⟩
end Go.Proofs.YtpheajiepnjhdaaDoor

namespace Go.Proofs.YtpheajiepnjhdaaDoor
open Go.RowKit Rec

set_option maxRecDepth 100000 in
set_option maxHeartbeats 1600000 in
theorem tape_any (w : World) (D : Dk) (h : Disk w D) (n : Nat) (hn : n ≤ D.tap.length) : Calls Tryd.prog 30 #[.pointer (some ⟨D.d, 0, none⟩), .int .i64 n] w fun e w' => ∃ v L, e = .returned v ∧ AcR w' D.nb v L ∧ L.map ActR.abs = D.abs.T.drop n ∧ Below w.heap.size w w' ∧ (∀ k, v.ownBlock = some k → w.heap.size ≤ k) ∧ ∀ q ∈ L, ∀ p, q.a = some p → w.heap.size ≤ p.block := by
  obtain ⟨ta, tc, hv, hpc, hga, hcc⟩ := owns_slice h.tap
  have C3 : w.cell? ⟨D.d, 3, none⟩ = some (.slice ta D.tap.length tc) := by rw [← hv]; exact h.cell 3
  have htl := h.tl
  have HD : Hid (Disk w D) := h
  have HV : Hid (D.tv = .slice ta D.tap.length tc ∧ (D.tap.length = 0 ∨ ∃ g, ta = some ⟨g, 0, none⟩)) := ⟨hv, hga⟩
  obtain ⟨i1, j1, j2, j3, j4⟩ := info_parts infoAct
  clear h hcc hv hga
  obtain ⟨M, hM⟩ : ∃ M, D.tap.length - n = M := ⟨_, rfl⟩
  have q1 : max (n : Int) 0 = (n : Int) := by omega
  have q2 : min (n : Int) (D.tap.length : Int) = (n : Int) := by omega
  have q3 : (n : Int) ≤ (D.tap.length : Int) := by omega
  go_enter Tryd.func30, Tryd.ntmps30
  go_wp2
  go_region
  obtain ⟨A, hA⟩ : ∃ A, (if tc = n then ta else Option.map (fun x => x.add (n * 3)) ta) = A := ⟨_, rfl⟩
  have HA0 : Hid (0 < M → ∃ gp, ta = some ⟨gp, 0, none⟩ ∧ A = some ⟨gp, n * 3, none⟩) := fun h0 => by
    obtain ⟨gp, e⟩ := HV.out.2.resolve_left (by omega)
    refine ⟨gp, e, ?_⟩
    rw [← hA, if_neg (by omega), e]
    rw [Option.map_some, Addr.add_lit, Nat.zero_add]
  rw [hA]
  clear hA q1 q2 q3
  have HB0 : Hid (Below w.heap.size w w.drew) := (Below.refl _ w).drew
  go_wp2_with (at_make; refine wp_makeA rfl _ _ rfl _ _ _ M rfl rfl (by rfl) (by omega) ?_; intro w1 ho hb; have H1 : Hid (TpW w w1 D.nb (.slice (some ⟨w.heap.size, 0, none⟩) 0 M) (D.abs.T.drop n) 0 []) := ⟨⟨ho, fun q hq => by cases hq⟩, rfl, rfl, (fun j hj => by cases hj; exact Nat.le_refl _), (fun q hq => by cases hq), HB0.out.trans hb⟩; clear ho hb)
  clear C3
  go_loopw [6, 8, 27, 28, 29, 30, 31, 32, 33, 34, 35, 36, 37, 38, 39] (fun v _ i _ _ _ _ _ _ _ _ _ _ _ _ wr => ∃ k : Nat, k ≤ M ∧ i = .int .i64 k ∧ ∃ L, TpW w wr D.nb v (D.abs.T.drop n) k L) (fun _ _ i _ _ _ _ _ _ _ _ _ _ _ _ _ => M - (intOf i).toNat)
  case atStart => exact ⟨0, Nat.zero_le _, rfl, _, H1.out⟩
  case round =>
    obtain ⟨k, hk, rfl, L, hS⟩ := hrel
    have HS : Hid (TpW w wr D.nb u6 (D.abs.T.drop n) k L) := hS
    clear hS H1
    by_cases hlt : k < M
    · have hd2 := HD.out.on HS.out.bel
      obtain ⟨ta', tc', hv', _, _, hcc⟩ := owns_slice hd2.tap
      have hvv := hv'.symm.trans HV.out.1
      cases hvv
      obtain ⟨gp, rfl, rfl⟩ := HA0.out (by omega)
      have hlt2 : n + k < D.tap.length := by omega
      have flat : ∀ j, j < 3 → (D.tap.flatMap Ac.cells)[n * 3 + k * 3 + j]? = (Ac.cells D.tap[n + k])[j]? := fun j hj => by rw [show n * 3 + k * 3 + j = (n + k) * 3 + j by omega]; exact flatA D.tap (n + k) hlt2 j hj
      have d0 : wr.cell? ⟨gp, n * 3 + k * 3, none⟩ = some (.int .i64 (D.tap[n + k]).kind) := (hcc gp 0 rfl).2.1 _ _ (flat 0 (by omega))
      have d1 : wr.cell? ⟨gp, n * 3 + k * 3 + 1, none⟩ = some (.int .i64 (D.tap[n + k]).b) := (hcc gp 0 rfl).2.1 _ _ (flat 1 (by omega))
      have d2 : wr.cell? ⟨gp, n * 3 + k * 3 + 2, none⟩ = some (D.tap[n + k]).v := (hcc gp 0 rfl).2.1 _ _ (flat 2 (by omega))
      have HQ : Hid ((D.abs.T.drop n)[k]? = some ((D.tap[n + k]).kind, (D.tap[n + k]).b, (D.tap[n + k]).x) ∧ AcOk wr D D.tap[n + k]) := ⟨by rw [List.getElem?_drop]; simp [Dk.abs, hlt2], hd2.tapb _ (List.getElem_mem hlt2)⟩
      clear hcc flat hd2
      generalize D.tap[n + k] = q at *
      obtain ⟨qk, qb, qv, qx⟩ := q
      have hok := HQ.out.2
      rcases hok with ⟨z1, z2, z3, z4, g, cap, z5, z6, z7⟩ | ⟨z1, z2, z5, z4⟩
      · simp only at z1 z2 z3 z4 z5 d0 d1 d2
        subst z1 z5
        have HOx : Hid (OwnB wr g cap qx) := z6
        have HXl : Hid (qx.length = 512) := z4
        clear z4 z6 z7
        have HA : Hid (Below wr.heap.size wr (wr.alloc (.cells #[.int .i64 1, .int .i64 qb, .slice (some ⟨g, 0, none⟩) 512 cap] 63))) := (Below.refl _ _).alloc (Nat.le_refl _) _
        have HR : Hid ((wr.alloc (.cells #[.int .i64 1, .int .i64 qb, .slice (some ⟨g, 0, none⟩) 512 cap] 63)).heap[wr.heap.size]? = some (.cells #[.int .i64 1, .int .i64 qb, .slice (some ⟨g, 0, none⟩) 512 cap] 63 (0, 0))) := heap_alloc_new wr _
        go_upto_region 6 with fail
        generalize wr.alloc (.cells #[.int .i64 1, .int .i64 qb, .slice (some ⟨g, 0, none⟩) 512 cap] 63) = wa at *
        have S2 : wa.cell? ⟨wr.heap.size, 2, none⟩ = some (.slice (some ⟨g, 0, none⟩) 512 cap) := cell_of_row _ _ _ _ _ _ HR.out
        go_upto_region 7 with (go_at_call 60; refine (bclone_any _ ⟨g, 0, none⟩ 512 cap qx (HOx.out.on HA.out).bytes HXl.out (by omega)).mono ?_; rintro e w2 ⟨g2, cap2, rfl, hg2, ho2, hb2⟩; have H2 : Hid ((wa.heap.size ≤ g2 ∧ OwnB w2 g2 cap2 qx) ∧ Below wr.heap.size wr w2) := ⟨⟨hg2, ho2⟩, HA.out.trans (hb2.mono HA.out.size)⟩; have HR2 : Hid (w2.heap[wr.heap.size]? = some (.cells #[.int .i64 1, .int .i64 qb, .slice (some ⟨g, 0, none⟩) 512 cap] 63 (0, 0))) := (below_fr hb2 (fun _ => False)).heap HR.out (fun e => e); have V2 : w2.cell? ⟨wr.heap.size, 2, none⟩ = some (.slice (some ⟨g, 0, none⟩) 512 cap) := cell_of_row _ _ _ _ _ _ HR2.out; have G2 := frozen_of_row _ _ 2 _ _ HR2.out; clear hg2 ho2 hb2)
        clear S2 d0 d1 d2
        have HR3 : Hid ((w2.setCell ⟨wr.heap.size, 2, none⟩ (.slice (some ⟨g2, 0, none⟩) 512 cap2)).heap[wr.heap.size]? = some (.cells #[.int .i64 1, .int .i64 qb, .slice (some ⟨g2, 0, none⟩) 512 cap2] 63 (0, 0))) := heap_setCell_same _ _ 2 _ _ _ HR2.out
        have HB3 : Hid (Below wr.heap.size wr (w2.setCell ⟨wr.heap.size, 2, none⟩ (.slice (some ⟨g2, 0, none⟩) 512 cap2))) := H2.out.2.grown grown_set H2.out.2.size (by intro k hk; cases hk; exact Nat.le_refl _)
        have HO3 : Hid (OkAct (w2.setCell ⟨wr.heap.size, 2, none⟩ (.slice (some ⟨g2, 0, none⟩) 512 cap2)) D.nb ⟨1, qb, some ⟨g2, 0, none⟩, cap2, qx⟩) := .inr ⟨rfl, z2, z3, HXl.out, g2, cap2, rfl, H2.out.1.2.fr (Fr.set (g := wr.heap.size)) (by have := heap_lt HR.out; have := H2.out.1.1; omega)⟩
        generalize w2.setCell ⟨wr.heap.size, 2, none⟩ (.slice (some ⟨g2, 0, none⟩) 512 cap2) = w3 at *
        have X0 : w3.cell? ⟨wr.heap.size, 0, none⟩ = some (.int .i64 1) := cell_of_row _ _ _ _ _ _ HR3.out
        have X1 : w3.cell? ⟨wr.heap.size, 1, none⟩ = some (.int .i64 qb) := cell_of_row _ _ _ _ _ _ HR3.out
        have X2 : w3.cell? ⟨wr.heap.size, 2, none⟩ = some (.slice (some ⟨g2, 0, none⟩) 512 cap2) := cell_of_row _ _ _ _ _ _ HR3.out
        have HA4 : Hid (Below w3.heap.size w3 (w3.alloc (.cells #[.int .i64 1, .int .i64 qb, .slice (some ⟨g2, 0, none⟩) 512 cap2] 63))) := (Below.refl _ _).alloc (Nat.le_refl _) _
        have HN4 : Hid (∀ j u, (ActR.cells ⟨1, qb, some ⟨g2, 0, none⟩, cap2, qx⟩)[j]? = some u → (w3.alloc (.cells #[.int .i64 1, .int .i64 qb, .slice (some ⟨g2, 0, none⟩) 512 cap2] 63)).cell? ((⟨w3.heap.size, 0, none⟩ : Addr).add j) = some u) := news_of (heap_alloc_new w3 _) _ (by simp [ActR.cells, HXl.out])
        have HB4 : Hid (Below wr.heap.size wr (w3.alloc (.cells #[.int .i64 1, .int .i64 qb, .slice (some ⟨g2, 0, none⟩) 512 cap2] 63))) := HB3.out.trans (HA4.out.mono HB3.out.size)
        have HW4 : Hid ((w3.alloc (.cells #[.int .i64 1, .int .i64 qb, .slice (some ⟨g2, 0, none⟩) 512 cap2] 63)).ownsRow 0 63 3 u6 k (L.flatMap ActR.cells)) := by
          have e := (HS.out.row.on HB4.out).row
          rw [HS.out.len] at e; exact e
        go_wp2_with (at_builtin; refine wp_own rfl (.tmp 35) (.tmp 37) 60 rfl 63 i1 _ 3 40 Tryd.underlying60 j1 j2 j3 j4 rfl (by decide) u6 k (L.flatMap ActR.cells) rfl HW4.out ⟨w3.heap.size, 0, none⟩ 1 1 (ActR.cells ⟨1, qb, some ⟨g2, 0, none⟩, cap2, qx⟩) rfl (by decide) rfl HN4.out (by intro u hu; simp [ActR.cells] at hu; rcases hu with rfl | rfl | rfl <;> rfl) (by unfold maxLen; omega) (by omega) ?_; intro g' c' w5 ho hf hg; have H5 : Hid (TpW w w5 D.nb (.slice (some ⟨g', 0, none⟩) (k + 1) c') (D.abs.T.drop n) (k + 1) (L ++ [⟨1, qb, some ⟨g2, 0, none⟩, cap2, qx⟩])) := HS.out.next HQ.out.1 HB4.out (HO3.out.on HA4.out) rfl (fun p hp => by cases hp; exact Nat.le_trans HS.out.bel.size (Nat.le_trans HA.out.size H2.out.1.1)) ho hf hg; clear ho hf hg)
        exact ⟨⟨k + 1, hlt, rfl, _, H5.out⟩, by simp [intOf]; omega⟩
      · simp only at z1 z2 z4 z5 d0 d1 d2
        subst z1 z2 z5 z4
        have HA : Hid (Below wr.heap.size wr (wr.alloc (.cells #[.int .i64 2, .int .i64 0, .slice none 0 0] 63))) := (Below.refl _ _).alloc (Nat.le_refl _) _
        have HR : Hid ((wr.alloc (.cells #[.int .i64 2, .int .i64 0, .slice none 0 0] 63)).heap[wr.heap.size]? = some (.cells #[.int .i64 2, .int .i64 0, .slice none 0 0] 63 (0, 0))) := heap_alloc_new wr _
        go_upto_region 6 with fail
        generalize wr.alloc (.cells #[.int .i64 2, .int .i64 0, .slice none 0 0] 63) = wa at *
        have S2 : wa.cell? ⟨wr.heap.size, 2, none⟩ = some (.slice none 0 0) := cell_of_row _ _ _ _ _ _ HR.out
        go_upto_region 7 with (go_at_call 60; refine (bclone_nil _).mono ?_; rintro e w2 ⟨rfl, rfl⟩; have H2 : Hid (True ∧ Below wr.heap.size wr wa) := ⟨trivial, HA.out⟩; have HR2 : Hid (wa.heap[wr.heap.size]? = some (.cells #[.int .i64 2, .int .i64 0, .slice none 0 0] 63 (0, 0))) := HR.out; have V2 : wa.cell? ⟨wr.heap.size, 2, none⟩ = some (.slice none 0 0) := cell_of_row _ _ _ _ _ _ HR2.out; have G2 := frozen_of_row _ _ 2 _ _ HR2.out)
        clear S2 d0 d1 d2
        have HR3 : Hid ((wa.setCell ⟨wr.heap.size, 2, none⟩ (.slice none 0 0)).heap[wr.heap.size]? = some (.cells #[.int .i64 2, .int .i64 0, .slice none 0 0] 63 (0, 0))) := heap_setCell_same _ _ 2 _ _ _ HR.out
        have HB3 : Hid (Below wr.heap.size wr (wa.setCell ⟨wr.heap.size, 2, none⟩ (.slice none 0 0))) := H2.out.2.grown grown_set H2.out.2.size (by intro k hk; cases hk; exact Nat.le_refl _)
        have HO3 : Hid (OkAct (wa.setCell ⟨wr.heap.size, 2, none⟩ (.slice none 0 0)) D.nb ⟨2, 0, none, 0, []⟩) := .inl ⟨rfl, rfl, rfl, rfl⟩
        generalize wa.setCell ⟨wr.heap.size, 2, none⟩ (.slice none 0 0) = w3 at *
        have X0 : w3.cell? ⟨wr.heap.size, 0, none⟩ = some (.int .i64 2) := cell_of_row _ _ _ _ _ _ HR3.out
        have X1 : w3.cell? ⟨wr.heap.size, 1, none⟩ = some (.int .i64 0) := cell_of_row _ _ _ _ _ _ HR3.out
        have X2 : w3.cell? ⟨wr.heap.size, 2, none⟩ = some (.slice none 0 0) := cell_of_row _ _ _ _ _ _ HR3.out
        have HA4 : Hid (Below w3.heap.size w3 (w3.alloc (.cells #[.int .i64 2, .int .i64 0, .slice none 0 0] 63))) := (Below.refl _ _).alloc (Nat.le_refl _) _
        have HN4 : Hid (∀ j u, (ActR.cells ⟨2, 0, none, 0, []⟩)[j]? = some u → (w3.alloc (.cells #[.int .i64 2, .int .i64 0, .slice none 0 0] 63)).cell? ((⟨w3.heap.size, 0, none⟩ : Addr).add j) = some u) := news_of (heap_alloc_new w3 _) _ rfl
        have HB4 : Hid (Below wr.heap.size wr (w3.alloc (.cells #[.int .i64 2, .int .i64 0, .slice none 0 0] 63))) := HB3.out.trans (HA4.out.mono HB3.out.size)
        have HW4 : Hid ((w3.alloc (.cells #[.int .i64 2, .int .i64 0, .slice none 0 0] 63)).ownsRow 0 63 3 u6 k (L.flatMap ActR.cells)) := by
          have e := (HS.out.row.on HB4.out).row
          rw [HS.out.len] at e; exact e
        go_wp2_with (at_builtin; refine wp_own rfl (.tmp 35) (.tmp 37) 60 rfl 63 i1 _ 3 40 Tryd.underlying60 j1 j2 j3 j4 rfl (by decide) u6 k (L.flatMap ActR.cells) rfl HW4.out ⟨w3.heap.size, 0, none⟩ 1 1 (ActR.cells ⟨2, 0, none, 0, []⟩) rfl (by decide) rfl HN4.out (by intro u hu; simp [ActR.cells] at hu; rcases hu with rfl | rfl | rfl <;> rfl) (by unfold maxLen; omega) (by omega) ?_; intro g' c' w5 ho hf hg; have H5 : Hid (TpW w w5 D.nb (.slice (some ⟨g', 0, none⟩) (k + 1) c') (D.abs.T.drop n) (k + 1) (L ++ [⟨2, 0, none, 0, []⟩])) := HS.out.next HQ.out.1 HB4.out (HO3.out.on HA4.out) rfl (fun p hp => by cases hp) ho hf hg; clear ho hf hg)
        exact ⟨⟨k + 1, hlt, rfl, _, H5.out⟩, by simp [intOf]; omega⟩
    · have hkM : k = M := by omega
      go_wp2
      go_ret
      exact ⟨_, L, rfl, HS.out.row, by rw [HS.out.ab, List.take_of_length_le (by rw [List.length_drop, abs_tlen]; omega)], HS.out.bel, HS.out.own, HS.out.adr⟩
end Go.Proofs.YtpheajiepnjhdaaDoor

namespace Go.Proofs.YtpheajiepnjhdaaDoor
open Go.RowKit Rec

/-- copy, of whatever bytes: the row has as many as before -/
theorem copy_len {w : World} {g cap : Nat} {l : List Int} (hO : OwnB w g cap l) (ty : TypeId) (off dLen dCap : Nat) (hfit : off + dLen ≤ l.length) (a : Option Addr) (n c : Nat) (m : List Int) (hb : Bytes w a m) (hm : m.length = n) (hc : a = none → c = 0) :
    ∃ k w', (Builtin.copy_ #[23, 23] ty #[.slice (some ⟨g, off, none⟩) dLen dCap, .slice a n c]).run Tryd.prog w = .ok (.int .i64 k) w' ∧ (∃ l', OwnB w' g cap l' ∧ l'.length = l.length) ∧ Fr (fun k => k = g) w w' := by
  cases a with
  | none =>
    have e := hb.nil
    subst e
    have e2 := hc rfl
    subst e2
    simp at hm
    subst hm
    exact ⟨_, w, run_copy_nil (P := Tryd.prog) w 23 23 ty 5 ⟨g, off, none⟩ dLen dCap Tryd.underlying23 (by rw [size5]; rfl), ⟨l, hO, rfl⟩, Fr.refl _ _⟩
  | some ad =>
    obtain ⟨cur, h1, h2, h3⟩ := hO.row
    have hr := hO.room
    have hk : (m.take (Nat.min n dLen)).length = Nat.min n dLen := by rw [List.length_take, hm]; exact Nat.min_eq_left (Nat.min_le_left _ _)
    have hle : Nat.min n dLen ≤ dLen := Nat.min_le_right _ _
    have hbk : Bytes w (Option.some ad) (m.take (Nat.min n dLen)) := hb.take _
    have r1 := run_copy_row (P := Tryd.prog) w 23 23 ty 5 g off dLen dCap ad n c cur 5 ((m.take (Nat.min n dLen)).map (Value.int .u8)) Tryd.underlying23 sizeU8 h1 (by rw [List.length_map, hk]) hbk.news (by rw [List.length_map, hk]; omega) (cells_u8 _)
    have r2 := run_copy_row (P := Tryd.prog) w 23 23 ty 5 g off dLen dCap ad (Nat.min n dLen) c cur 5 ((m.take (Nat.min n dLen)).map (Value.int .u8)) Tryd.underlying23 sizeU8 h1 (by rw [List.length_map, hk]; exact (Nat.min_eq_left hle).symm) hbk.news (by rw [List.length_map, hk]; omega) (cells_u8 _)
    obtain ⟨w', e1, e2, e3⟩ := copyB_run (off := off) (dLen := dLen) (dCap := dCap) ty ad (Nat.min n dLen) c (m.take (Nat.min n dLen)) hO hbk hk hle (by omega)
    exact ⟨_, w', by rw [r1, ← r2]; exact e1, ⟨_, e2, by rw [ov_length]⟩, e3⟩
/-- a disk that was opened over bytes -/
structure Fresh (a : AD) (nb : Nat) (l : List Int) : Prop where
  size : a.nb = nb
  las : a.las = l
  pen : a.P = []
  down : a.down = false
  at_ : a.at_ = 0
  len : l.length = 512 * nb
  wr : a.wr = 0
  fl : a.fl = 0
  tape : a.T = []
  keep : a.keep = []
theorem Fresh.full {D : Dk} {nb : Nat} {l : List Int} (h : Fresh D.abs nb l) : D.full = l := by rw [abs_full, AD.full_fw, h.pen, h.las]; rfl
theorem open_fresh (w : World) (p : Addr) (c nb : Nat) (l : List Int) (hb : Bytes w (some p) l) (hn : l.length = 512 * nb) (h0 : 1 ≤ nb) (h1 : nb ≤ 16384) :
    Calls Tryd.prog 25 #[.slice (some p) (512 * nb : Nat) c] w fun e w' => ∃ D, e = .returned (.tuple #[.pointer (some ⟨D.d, 0, none⟩), .int .i64 0]) ∧ Mine w w' D ∧ Fresh D.abs nb l := by
  refine (open_yes w p c nb l hb hn h0 h1).mono ?_
  rintro e w' ⟨d, nw, L, capL, rfl, a1, a2, a3, hd, hb⟩
  exact ⟨_, rfl, ⟨hd, newDk_all _ _ _ _ _ _ _ a1 a3 a2, hb⟩, ⟨rfl, rfl, rfl, rfl, rfl, hn, rfl, rfl, rfl, rfl⟩⟩
theorem Fresh.room {a : AD} {nb : Nat} {l : List Int} (h : Fresh a nb l) (n : Nat) (hn : n ≤ 1000000) : RoomN a n := ⟨by rw [h.pen]; simp; omega, by rw [h.tape]; simp; omega, by rw [h.wr]; omega, by rw [h.fl]; omega, by rw [h.keep]; simp⟩
theorem Fresh.openE {D : Dk} {nb : Nat} {l : List Int} (h : Fresh D.abs nb l) : openE D = logE l nb := by
  have hd : D.down = false := h.down
  have hb : D.nb = nb := h.size
  unfold Go.Proofs.YtpheajiepnjhdaaDoor.openE
  rw [hd, h.full, hb]; rfl
theorem numsE_two (h : List Int) (n : Int) (hl : h.length = 512) : numsE h n = 0 ∨ numsE h n = 41 := by
  unfold numsE
  rw [if_pos hl]
  split
  · exact .inl rfl
  · split
    · exact .inl rfl
    · exact .inr rfl
theorem logE_vals (l : List Int) (nb : Nat) (hl : l.length = 512 * nb) (hn : 98 ≤ nb) : logE l nb = 0 ∨ logE l nb = 41 := by
  unfold logE
  rw [if_neg (by omega)]
  split
  · split
    · exact .inl rfl
    · exact .inr rfl
  · rcases numsE_two (bck l 1) nb (bck_length l 1 nb hl (by omega)) with e | e
    · exact .inl e
    · exact .inr e
theorem grp_mem (gs : List (List (Nat × List Int))) (t : WA) (h : t ∈ grp gs) : t = none ∨ ∃ ws ∈ gs, ∃ p ∈ ws, t = some p := by
  induction gs with
  | nil => simp [grp] at h
  | cons ws gs ih =>
    rw [grp] at h
    rcases List.mem_append.1 h with h | h
    · obtain ⟨p, hp, rfl⟩ := List.mem_map.1 h
      exact .inr ⟨ws, .head _, p, hp, rfl⟩
    · rcases List.mem_cons.1 h with h | h
      · exact .inl h
      · rcases ih h with e | ⟨ws', h1, p, h2, e⟩
        · exact .inl e
        · exact .inr ⟨ws', .tail _ h1, p, h2, e⟩
theorem tape_cell {w : World} {m : Nat} {g c : Nat} {L : List ActR} (h : AcR w m (.slice (some ⟨g, 0, none⟩) L.length c) L) (k : Nat) (hk : k < L.length) : w.cell? ⟨g, k * 3, none⟩ = some (.int .i64 (L[k]).kind) ∧ w.cell? ⟨g, k * 3 + 1, none⟩ = some (.int .i64 (L[k]).b) := by
  have h0 := h.row.cells (g := g) rfl (k * 3 + 0) (.int .i64 (L[k]).kind) (by rw [flat3 ActR.cells L k hk 0 (by omega) (fun _ => rfl)]; rfl)
  have h1 := h.row.cells (g := g) rfl (k * 3 + 1) (.int .i64 (L[k]).b) (by rw [flat3 ActR.cells L k hk 1 (by omega) (fun _ => rfl)]; rfl)
  rw [Addr.add_lit] at h0 h1
  simp only [Nat.zero_add, Nat.add_zero] at h0 h1
  exact ⟨h0, h1⟩
end Go.Proofs.YtpheajiepnjhdaaDoor

import Derived.Test.YtamlbpbhlgmcoaaGreatDoorKWCt
namespace Go.Proofs.YtamlbpbhlgmcoaaGreatDoor
open Go.RowKit Rec

theorem ownA_ne {w : World} {g cap : Nat} {x : List Int} {v : Value} {n : Nat} {xs : List Value} (hO : OwnB w g cap x) (h : w.ownsRow 0 79 3 v n xs) : ¬ v.ownBlock = some g := fun e => by
  obtain ⟨cur, hg, _⟩ := hO.row
  rcases h.2 with ⟨rfl, _⟩ | ⟨g', cap', cur', rfl, _, hg', _⟩
  · cases e
  · cases e
    rw [hg] at hg'
    cases hg'
theorem flatA (l : List Ac) (k : Nat) (hk : k < l.length) (j : Nat) (hj : j < 3) : (l.flatMap Ac.cells)[k * 3 + j]? = (Ac.cells l[k])[j]? := by
  have hf : ∀ p, (Ac.cells p).length = 3 := by intro p; rfl
  induction l generalizing k with
  | nil => simp at hk
  | cons p l ih =>
    rw [List.flatMap_cons]
    cases k with
    | zero => rw [List.getElem?_append_left (by rw [hf]; omega)]; simp
    | succ k =>
      rw [List.getElem?_append_right (by rw [hf]; omega), hf, show (k + 1) * 3 + j - 3 = k * 3 + j by omega, ih k (by simpa using hk)]; rfl
theorem AcR.frs {S : Nat → Prop} {w w' : World} {m : Nat} {v : Value} {L : List ActR} (h : AcR w m v L) (x : Fr S w w') (h1 : ∀ k, v.ownBlock = some k → ¬ S k) (h2 : ∀ q ∈ L, ∀ p, q.a = some p → ¬ S p.block) : AcR w' m v L :=
  ⟨owns_fr h.row x h1, fun q hq => by
    rcases h.each q hq with z | ⟨z1, z2, z3, z4, g, cap, z5, z6⟩
    · exact .inl z
    · exact .inr ⟨z1, z2, z3, z4, g, cap, z5, z6.fr x (h2 q hq _ z5)⟩⟩
/-- within the tape's copying -/
structure TpW (w wr : World) (m : Nat) (v : Value) (T : List (Int × Int × List Int)) (k : Nat) (L : List ActR) : Prop where
  row : AcR wr m v L
  len : L.length = k
  ab : L.map ActR.abs = T.take k
  own : ∀ j, v.ownBlock = some j → w.heap.size ≤ j
  adr : ∀ q ∈ L, ∀ p, q.a = some p → w.heap.size ≤ p.block
  bel : Below w.heap.size w wr
theorem TpW.next {w wr wa wb : World} {m g cap k : Nat} {v : Value} {T : List (Int × Int × List Int)} {L : List ActR} {q : Int × Int × List Int} {r : ActR} (h : TpW w wr m v T k L) (hq : T[k]? = some q) (ha : Below wr.heap.size wr wa) (hr : OkAct wa m r) (hab : r.abs = q) (hra : ∀ p, r.a = some p → w.heap.size ≤ p.block)
    (ho : wb.ownsRow 0 79 3 (.slice (some ⟨g, 0, none⟩) (k + 1) cap) (k + 1) (L.flatMap ActR.cells ++ r.cells)) (hf : Fr (fun j => v.ownBlock = some j) wa wb) (hg : v.ownBlock = some g ∨ wa.heap.size ≤ g) : TpW w wb m (.slice (some ⟨g, 0, none⟩) (k + 1) cap) T (k + 1) (L ++ [r]) := by
  refine ⟨⟨by rw [List.length_append, List.flatMap_append, h.len]; simpa using ho, fun x hx => ?_⟩, by rw [List.length_append, h.len]; rfl, ?_, fun j hj => ?_, fun x hx => ?_, ?_⟩
  · rcases List.mem_append.1 hx with hx | hx
    · exact ((h.row.each x hx).on ha).fr hf (fun g cap hO => ownA_ne hO (h.row.on ha).row)
    · rw [List.mem_singleton] at hx; subst hx
      exact hr.fr hf (fun g cap hO => ownA_ne hO (h.row.on ha).row)
  · rw [List.map_append, h.ab, List.take_add_one, hq]
    show _ ++ [r.abs] = _ ++ [q]
    rw [hab]
  · cases hj
    exact hg.elim (h.own g) (fun e => Nat.le_trans h.bel.size (Nat.le_trans ha.size e))
  · rcases List.mem_append.1 hx with hx | hx
    · exact h.adr x hx
    · rw [List.mem_singleton] at hx; subst hx; exact hra
  · exact (h.bel.trans (ha.mono h.bel.size)).trans (hf.below _ h.own (Nat.le_trans h.bel.size ha.size))
theorem wp_makeA {ops : Array Oper} {rest : List Oper} {o : Oper} {a : Act} {Q : Exit → Act → World → Prop} {w : World} (hg : o.guard = none) (l c : Operand) (hop : o.op = Op.makeSlice 38 l c)
    (kl kc : IntKind) (C : Int) (n : Nat) (hl : a.eval l = .int kl 0) (hc : a.eval c = .int kc C) (hC : C = (n : Int)) (hn : n ≤ 3518437208800)
    (hK : ∀ w', w'.ownsRow 0 79 3 (.slice (some ⟨w.heap.size, 0, none⟩) 0 n) 0 [] → Below w.heap.size w w' → wpList Tryz.prog ops Q rest (a.put o.dst (.slice (some ⟨w.heap.size, 0, none⟩) 0 n)) w') :
    wpList Tryz.prog ops Q (o :: rest) a w := by
  obtain ⟨i0, hi, hz0, hz1, hz2⟩ := info_parts infoAct
  refine wpList_make_own w hg l c 38 hop 0 79 i0 _ 3 Tryz.underlying38 hi hz0 hz1 kl kc C n hl hc hC (by rw [hz2]; omega) (by unfold maxLen; omega) (Nat.zero_le _) ?_
  intro w' h1 h2
  exact hK w' h1 ⟨h2.os, h2.tape, h2.output, h2.size, fun k hk => h2.block k hk (by simp)⟩
end Go.Proofs.YtamlbpbhlgmcoaaGreatDoor

namespace Go.Proofs.YtamlbpbhlgmcoaaGreatDoor
open Go.RowKit Rec

theorem acts_at {w : World} {a : Option Addr} {L : List ActR} (h : Acts w a L) (k : Nat) (hk : k < L.length) : ∃ b off, a = some ⟨b, off, none⟩ ∧ ActAt w b (off + k * 3) L[k] := by
  obtain ⟨b, off, e, hc⟩ := h.at_.resolve_left (by intro e; rw [e] at hk; simp at hk)
  exact ⟨b, off, e, hc k L[k] (by simp [hk])⟩
theorem abs_at {L M : List ActR} (h : L.map ActR.abs = M.map ActR.abs) (k : Nat) (h1 : k < L.length) (h2 : k < M.length) : (L[k]).kind = (M[k]).kind ∧ (L[k]).b = (M[k]).b ∧ (L[k]).x = (M[k]).x := by
  have e : (L.map ActR.abs)[k]? = (M.map ActR.abs)[k]? := by rw [h]
  simp [h1, h2, ActR.abs] at e
  exact e
end Go.Proofs.YtamlbpbhlgmcoaaGreatDoor

namespace Go.Proofs.YtamlbpbhlgmcoaaGreatDoor
open Go.RowKit Rec

/-- bytes of acts apart -/
def DisA (L : List ActR) : Prop := L.Pairwise (fun a b => ∀ p p', a.a = some p → b.a = some p' → p.block ≠ p'.block)
/-- an act's bytes in a row of their own -/
def OwQ (w : World) (q : ActR) : Prop := (q.x = [] ∧ q.a = none ∧ q.c = 0) ∨ ∃ g, q.a = some ⟨g, 0, none⟩ ∧ OwnB w g q.c q.x
theorem OwQ.fr {S : Nat → Prop} {w w' : World} {q : ActR} (h : OwQ w q) (x : Fr S w w') (hS : ∀ g cap, OwnB w g cap q.x → ¬ S g) : OwQ w' q := by
  rcases h with h | ⟨g, e, ho⟩
  · exact .inl h
  · exact .inr ⟨g, e, ho.fr x (hS _ _ ho)⟩
theorem OwQ.on {w w' : World} {q : ActR} (h : OwQ w q) (hb : Below w.heap.size w w') : OwQ w' q := h.fr (below_fr hb (fun _ => False)) (fun _ _ _ e => e)
structure TpD (w wr : World) (m : Nat) (v : Value) (T : List (Int × Int × List Int)) (k : Nat) (L : List ActR) : Prop where
  tp : TpW w wr m v T k L
  dis : DisA L
  own : ∀ q ∈ L, OwQ wr q
theorem OkAct.lt {w : World} {m : Nat} {q : ActR} (h : OkAct w m q) {p : Addr} (hp : q.a = some p) : p.block < w.heap.size := by
  rcases h with ⟨_, e, _⟩ | ⟨_, _, _, _, g, cap, e, ho⟩
  · rw [e] at hp; cases hp
  · rw [e] at hp; cases hp; exact ho.lt
theorem TpD.next {w wr wa wb : World} {m g cap k : Nat} {v : Value} {T : List (Int × Int × List Int)} {L : List ActR} {q : Int × Int × List Int} {r : ActR} (h : TpD w wr m v T k L) (hq : T[k]? = some q) (ha : Below wr.heap.size wr wa) (hr : OkAct wa m r) (hab : r.abs = q) (hra : ∀ p, r.a = some p → wr.heap.size ≤ p.block) (hoq : OwQ wa r)
    (ho : wb.ownsRow 0 79 3 (.slice (some ⟨g, 0, none⟩) (k + 1) cap) (k + 1) (L.flatMap ActR.cells ++ r.cells)) (hf : Fr (fun j => v.ownBlock = some j) wa wb) (hg : v.ownBlock = some g ∨ wa.heap.size ≤ g) : TpD w wb m (.slice (some ⟨g, 0, none⟩) (k + 1) cap) T (k + 1) (L ++ [r]) := by
  refine ⟨h.tp.next hq ha hr hab (fun p hp => Nat.le_trans h.tp.bel.size (hra p hp)) ho hf hg, List.pairwise_append.2 ⟨h.dis, List.pairwise_singleton _ _, fun a ha b hb => ?_⟩, fun x hx => ?_⟩
  rotate_left
  · rcases List.mem_append.1 hx with hx | hx
    · exact ((h.own x hx).on ha).fr hf (fun g cap hO => ownA_ne hO (h.tp.row.on ha).row)
    · rw [List.mem_singleton] at hx; subst hx
      exact hoq.fr hf (fun g cap hO => ownA_ne hO (h.tp.row.on ha).row)
  rw [List.mem_singleton] at hb
  subst hb
  intro p p' e e'
  have h1 := (h.tp.row.each a ha).lt e
  have h2 := hra p' e'
  omega
set_option maxRecDepth 100000 in
set_option maxHeartbeats 1600000 in
theorem tape_all (w : World) (D : Dk) (h : Disk w D) (fr m : Int) (n : Nat) (hn : n ≤ D.tap.length) (q1 : (if fr < 0 then (0 : Int) else fr) = m) (q2 : (if (D.tap.length : Int) < m then (D.tap.length : Int) else m) = (n : Int)) : Calls Tryz.prog 12 #[.pointer (some ⟨D.d, 0, none⟩), .int .i64 fr] w fun e w' => ∃ v L, e = .returned v ∧ AcR w' D.nb v L ∧ L.map ActR.abs = D.abs.T.drop n ∧ Below w.heap.size w w' ∧ (∀ k, v.ownBlock = some k → w.heap.size ≤ k) ∧ (∀ q ∈ L, ∀ p, q.a = some p → w.heap.size ≤ p.block) ∧ DisA L ∧ ∀ q ∈ L, OwQ w' q := by
  obtain ⟨ta, tc, hv, hpc, hga, hcc⟩ := owns_slice h.tap
  have C3 : w.cell? ⟨D.d, 3, none⟩ = some (.slice ta D.tap.length tc) := by rw [← hv]; exact h.cell 3
  have htl := h.tl
  have HD : Hid (Disk w D) := h
  have HV : Hid (D.tv = .slice ta D.tap.length tc ∧ (D.tap.length = 0 ∨ ∃ g, ta = some ⟨g, 0, none⟩)) := ⟨hv, hga⟩
  obtain ⟨i1, j1, j2, j3, j4⟩ := info_parts infoAct
  clear h hcc hv hga
  obtain ⟨M, hM⟩ : ∃ M, D.tap.length - n = M := ⟨_, rfl⟩
  have q3 : (n : Int) ≤ (D.tap.length : Int) := by omega
  go_enter Tryz.func12, Tryz.ntmps12
  go_wp2
  go_region
  obtain ⟨A, hA⟩ : ∃ A, (if tc = n then ta else Option.map (fun x => x.add (n * 3)) ta) = A := ⟨_, rfl⟩
  have HA0 : Hid (0 < M → ∃ gp, ta = some ⟨gp, 0, none⟩ ∧ A = some ⟨gp, n * 3, none⟩) := fun h0 => by
    obtain ⟨gp, e⟩ := HV.out.2.resolve_left (by omega)
    refine ⟨gp, e, ?_⟩
    rw [← hA, if_neg (by omega), e]
    rw [Option.map_some, Addr.add_lit, Nat.zero_add]
  rw [hA]
  clear hA q1 q2 q3
  have HB0 : Hid (Below w.heap.size w w.drew) := (Below.refl _ w).drew
  go_wp2_with (at_make; refine wp_makeA rfl _ _ rfl _ _ _ M rfl rfl (by rfl) (by omega) ?_; intro w1 ho hb; have H1 : Hid (TpD w w1 D.nb (.slice (some ⟨w.heap.size, 0, none⟩) 0 M) (D.abs.T.drop n) 0 []) := ⟨⟨⟨ho, fun q hq => by cases hq⟩, rfl, rfl, (fun j hj => by cases hj; exact Nat.le_refl _), (fun q hq => by cases hq), HB0.out.trans hb⟩, List.Pairwise.nil, (fun q hq => by cases hq)⟩; clear ho hb)
  clear C3
  go_loopw [6, 8, 27, 28, 29, 30, 31, 32, 33, 34, 35, 36, 37, 38, 39] (fun v _ i _ _ _ _ _ _ _ _ _ _ _ _ wr => ∃ k : Nat, k ≤ M ∧ i = .int .i64 k ∧ ∃ L, TpD w wr D.nb v (D.abs.T.drop n) k L) (fun _ _ i _ _ _ _ _ _ _ _ _ _ _ _ _ => M - (intOf i).toNat)
  case atStart => exact ⟨0, Nat.zero_le _, rfl, _, H1.out⟩
  case round =>
    obtain ⟨k, hk, rfl, L, hS⟩ := hrel
    have HS : Hid (TpD w wr D.nb u6 (D.abs.T.drop n) k L) := hS
    clear hS H1
    by_cases hlt : k < M
    · have hd2 := HD.out.on HS.out.tp.bel
      obtain ⟨ta', tc', hv', _, _, hcc⟩ := owns_slice hd2.tap
      have hvv := hv'.symm.trans HV.out.1
      cases hvv
      obtain ⟨gp, rfl, rfl⟩ := HA0.out (by omega)
      have hlt2 : n + k < D.tap.length := by omega
      have flat : ∀ j, j < 3 → (D.tap.flatMap Ac.cells)[n * 3 + k * 3 + j]? = (Ac.cells D.tap[n + k])[j]? := fun j hj => by rw [show n * 3 + k * 3 + j = (n + k) * 3 + j by omega]; exact flatA D.tap (n + k) hlt2 j hj
      have d0 : wr.cell? ⟨gp, n * 3 + k * 3, none⟩ = some (.int .i64 (D.tap[n + k]).kind) := (hcc gp 0 rfl).2.1 _ _ (flat 0 (by omega))
      have d1 : wr.cell? ⟨gp, n * 3 + k * 3 + 1, none⟩ = some (.int .i64 (D.tap[n + k]).b) := (hcc gp 0 rfl).2.1 _ _ (flat 1 (by omega))
      have d2 : wr.cell? ⟨gp, n * 3 + k * 3 + 2, none⟩ = some (D.tap[n + k]).v := (hcc gp 0 rfl).2.1 _ _ (flat 2 (by omega))
      have HQ : Hid ((D.abs.T.drop n)[k]? = some ((D.tap[n + k]).kind, (D.tap[n + k]).b, (D.tap[n + k]).x) ∧ AcOk wr D D.tap[n + k]) := ⟨by rw [List.getElem?_drop]; simp [Dk.abs, hlt2], hd2.tapb _ (List.getElem_mem hlt2)⟩
      clear hcc flat hd2
      generalize D.tap[n + k] = q at *
      obtain ⟨qk, qb, qv, qx⟩ := q
      have hok := HQ.out.2
      rcases hok with ⟨z1, z2, z3, z4, g, cap, z5, z6, z7⟩ | ⟨z1, z2, z5, z4⟩
      · simp only at z1 z2 z3 z4 z5 d0 d1 d2
        subst z1 z5
        have HOx : Hid (OwnB wr g cap qx) := z6
        have HXl : Hid (qx.length = 512) := z4
        clear z4 z6 z7
        have HA : Hid (Below wr.heap.size wr (wr.alloc (.cells #[.int .i64 1, .int .i64 qb, .slice (some ⟨g, 0, none⟩) 512 cap] 79))) := (Below.refl _ _).alloc (Nat.le_refl _) _
        have HR : Hid ((wr.alloc (.cells #[.int .i64 1, .int .i64 qb, .slice (some ⟨g, 0, none⟩) 512 cap] 79)).heap[wr.heap.size]? = some (.cells #[.int .i64 1, .int .i64 qb, .slice (some ⟨g, 0, none⟩) 512 cap] 79 (0, 0))) := heap_alloc_new wr _
        go_upto_region 6 with fail
        generalize wr.alloc (.cells #[.int .i64 1, .int .i64 qb, .slice (some ⟨g, 0, none⟩) 512 cap] 79) = wa at *
        have S2 : wa.cell? ⟨wr.heap.size, 2, none⟩ = some (.slice (some ⟨g, 0, none⟩) 512 cap) := cell_of_row _ _ _ _ _ _ HR.out
        go_upto_region 7 with (go_at_call 39; refine (bclone_any _ ⟨g, 0, none⟩ 512 cap qx (HOx.out.on HA.out).bytes HXl.out (by omega)).mono ?_; rintro e w2 ⟨g2, cap2, rfl, hg2, ho2, hb2⟩; have H2 : Hid ((wa.heap.size ≤ g2 ∧ OwnB w2 g2 cap2 qx) ∧ Below wr.heap.size wr w2) := ⟨⟨hg2, ho2⟩, HA.out.trans (hb2.mono HA.out.size)⟩; have HR2 : Hid (w2.heap[wr.heap.size]? = some (.cells #[.int .i64 1, .int .i64 qb, .slice (some ⟨g, 0, none⟩) 512 cap] 79 (0, 0))) := (below_fr hb2 (fun _ => False)).heap HR.out (fun e => e); have V2 : w2.cell? ⟨wr.heap.size, 2, none⟩ = some (.slice (some ⟨g, 0, none⟩) 512 cap) := cell_of_row _ _ _ _ _ _ HR2.out; have G2 := frozen_of_row _ _ 2 _ _ HR2.out; clear hg2 ho2 hb2)
        clear S2 d0 d1 d2
        have HR3 : Hid ((w2.setCell ⟨wr.heap.size, 2, none⟩ (.slice (some ⟨g2, 0, none⟩) 512 cap2)).heap[wr.heap.size]? = some (.cells #[.int .i64 1, .int .i64 qb, .slice (some ⟨g2, 0, none⟩) 512 cap2] 79 (0, 0))) := heap_setCell_same _ _ 2 _ _ _ HR2.out
        have HB3 : Hid (Below wr.heap.size wr (w2.setCell ⟨wr.heap.size, 2, none⟩ (.slice (some ⟨g2, 0, none⟩) 512 cap2))) := H2.out.2.grown grown_set H2.out.2.size (by intro k hk; cases hk; exact Nat.le_refl _)
        have HO3 : Hid (OkAct (w2.setCell ⟨wr.heap.size, 2, none⟩ (.slice (some ⟨g2, 0, none⟩) 512 cap2)) D.nb ⟨1, qb, some ⟨g2, 0, none⟩, cap2, qx⟩) := .inr ⟨rfl, z2, z3, HXl.out, g2, cap2, rfl, H2.out.1.2.fr (Fr.set (g := wr.heap.size)) (by have := heap_lt HR.out; have := H2.out.1.1; omega)⟩
        have HO5 : Hid (OwQ (w2.setCell ⟨wr.heap.size, 2, none⟩ (.slice (some ⟨g2, 0, none⟩) 512 cap2)) ⟨1, qb, some ⟨g2, 0, none⟩, cap2, qx⟩) := .inr ⟨g2, rfl, H2.out.1.2.fr (Fr.set (g := wr.heap.size)) (by have := heap_lt HR.out; have := H2.out.1.1; omega)⟩
        generalize w2.setCell ⟨wr.heap.size, 2, none⟩ (.slice (some ⟨g2, 0, none⟩) 512 cap2) = w3 at *
        have X0 : w3.cell? ⟨wr.heap.size, 0, none⟩ = some (.int .i64 1) := cell_of_row _ _ _ _ _ _ HR3.out
        have X1 : w3.cell? ⟨wr.heap.size, 1, none⟩ = some (.int .i64 qb) := cell_of_row _ _ _ _ _ _ HR3.out
        have X2 : w3.cell? ⟨wr.heap.size, 2, none⟩ = some (.slice (some ⟨g2, 0, none⟩) 512 cap2) := cell_of_row _ _ _ _ _ _ HR3.out
        have HA4 : Hid (Below w3.heap.size w3 (w3.alloc (.cells #[.int .i64 1, .int .i64 qb, .slice (some ⟨g2, 0, none⟩) 512 cap2] 79))) := (Below.refl _ _).alloc (Nat.le_refl _) _
        have HN4 : Hid (∀ j u, (ActR.cells ⟨1, qb, some ⟨g2, 0, none⟩, cap2, qx⟩)[j]? = some u → (w3.alloc (.cells #[.int .i64 1, .int .i64 qb, .slice (some ⟨g2, 0, none⟩) 512 cap2] 79)).cell? ((⟨w3.heap.size, 0, none⟩ : Addr).add j) = some u) := news_of (heap_alloc_new w3 _) _ (by simp [ActR.cells, HXl.out])
        have HB4 : Hid (Below wr.heap.size wr (w3.alloc (.cells #[.int .i64 1, .int .i64 qb, .slice (some ⟨g2, 0, none⟩) 512 cap2] 79))) := HB3.out.trans (HA4.out.mono HB3.out.size)
        have HW4 : Hid ((w3.alloc (.cells #[.int .i64 1, .int .i64 qb, .slice (some ⟨g2, 0, none⟩) 512 cap2] 79)).ownsRow 0 79 3 u6 k (L.flatMap ActR.cells)) := by
          have e := (HS.out.tp.row.on HB4.out).row
          rw [HS.out.tp.len] at e; exact e
        go_wp2_with (at_builtin; refine wp_own rfl (.tmp 35) (.tmp 37) 38 rfl 79 i1 _ 3 40 Tryz.underlying38 j1 j2 j3 j4 rfl (by decide) u6 k (L.flatMap ActR.cells) rfl HW4.out ⟨w3.heap.size, 0, none⟩ 1 1 (ActR.cells ⟨1, qb, some ⟨g2, 0, none⟩, cap2, qx⟩) rfl (by decide) rfl HN4.out (by intro u hu; simp [ActR.cells] at hu; rcases hu with rfl | rfl | rfl <;> rfl) (by unfold maxLen; omega) (by omega) ?_; intro g' c' w5 ho hf hg; have H5 : Hid (TpD w w5 D.nb (.slice (some ⟨g', 0, none⟩) (k + 1) c') (D.abs.T.drop n) (k + 1) (L ++ [⟨1, qb, some ⟨g2, 0, none⟩, cap2, qx⟩])) := HS.out.next HQ.out.1 HB4.out (HO3.out.on HA4.out) rfl (fun p hp => by cases hp; exact Nat.le_trans HA.out.size H2.out.1.1) (HO5.out.on HA4.out) ho hf hg; clear ho hf hg)
        exact ⟨⟨k + 1, hlt, rfl, _, H5.out⟩, by simp [intOf]; omega⟩
      · simp only at z1 z2 z4 z5 d0 d1 d2
        subst z1 z2 z5 z4
        have HA : Hid (Below wr.heap.size wr (wr.alloc (.cells #[.int .i64 2, .int .i64 0, .slice none 0 0] 79))) := (Below.refl _ _).alloc (Nat.le_refl _) _
        have HR : Hid ((wr.alloc (.cells #[.int .i64 2, .int .i64 0, .slice none 0 0] 79)).heap[wr.heap.size]? = some (.cells #[.int .i64 2, .int .i64 0, .slice none 0 0] 79 (0, 0))) := heap_alloc_new wr _
        go_upto_region 6 with fail
        generalize wr.alloc (.cells #[.int .i64 2, .int .i64 0, .slice none 0 0] 79) = wa at *
        have S2 : wa.cell? ⟨wr.heap.size, 2, none⟩ = some (.slice none 0 0) := cell_of_row _ _ _ _ _ _ HR.out
        go_upto_region 7 with (go_at_call 39; refine (bclone_nil _).mono ?_; rintro e w2 ⟨rfl, rfl⟩; have H2 : Hid (True ∧ Below wr.heap.size wr wa) := ⟨trivial, HA.out⟩; have HR2 : Hid (wa.heap[wr.heap.size]? = some (.cells #[.int .i64 2, .int .i64 0, .slice none 0 0] 79 (0, 0))) := HR.out; have V2 : wa.cell? ⟨wr.heap.size, 2, none⟩ = some (.slice none 0 0) := cell_of_row _ _ _ _ _ _ HR2.out; have G2 := frozen_of_row _ _ 2 _ _ HR2.out)
        clear S2 d0 d1 d2
        have HR3 : Hid ((wa.setCell ⟨wr.heap.size, 2, none⟩ (.slice none 0 0)).heap[wr.heap.size]? = some (.cells #[.int .i64 2, .int .i64 0, .slice none 0 0] 79 (0, 0))) := heap_setCell_same _ _ 2 _ _ _ HR.out
        have HB3 : Hid (Below wr.heap.size wr (wa.setCell ⟨wr.heap.size, 2, none⟩ (.slice none 0 0))) := H2.out.2.grown grown_set H2.out.2.size (by intro k hk; cases hk; exact Nat.le_refl _)
        have HO3 : Hid (OkAct (wa.setCell ⟨wr.heap.size, 2, none⟩ (.slice none 0 0)) D.nb ⟨2, 0, none, 0, []⟩) := .inl ⟨rfl, rfl, rfl, rfl⟩
        have HO5 : Hid (OwQ (wa.setCell ⟨wr.heap.size, 2, none⟩ (.slice none 0 0)) ⟨2, 0, none, 0, []⟩) := .inl ⟨rfl, rfl, rfl⟩
        generalize wa.setCell ⟨wr.heap.size, 2, none⟩ (.slice none 0 0) = w3 at *
        have X0 : w3.cell? ⟨wr.heap.size, 0, none⟩ = some (.int .i64 2) := cell_of_row _ _ _ _ _ _ HR3.out
        have X1 : w3.cell? ⟨wr.heap.size, 1, none⟩ = some (.int .i64 0) := cell_of_row _ _ _ _ _ _ HR3.out
        have X2 : w3.cell? ⟨wr.heap.size, 2, none⟩ = some (.slice none 0 0) := cell_of_row _ _ _ _ _ _ HR3.out
        have HA4 : Hid (Below w3.heap.size w3 (w3.alloc (.cells #[.int .i64 2, .int .i64 0, .slice none 0 0] 79))) := (Below.refl _ _).alloc (Nat.le_refl _) _
        have HN4 : Hid (∀ j u, (ActR.cells ⟨2, 0, none, 0, []⟩)[j]? = some u → (w3.alloc (.cells #[.int .i64 2, .int .i64 0, .slice none 0 0] 79)).cell? ((⟨w3.heap.size, 0, none⟩ : Addr).add j) = some u) := news_of (heap_alloc_new w3 _) _ rfl
        have HB4 : Hid (Below wr.heap.size wr (w3.alloc (.cells #[.int .i64 2, .int .i64 0, .slice none 0 0] 79))) := HB3.out.trans (HA4.out.mono HB3.out.size)
        have HW4 : Hid ((w3.alloc (.cells #[.int .i64 2, .int .i64 0, .slice none 0 0] 79)).ownsRow 0 79 3 u6 k (L.flatMap ActR.cells)) := by
          have e := (HS.out.tp.row.on HB4.out).row
          rw [HS.out.tp.len] at e; exact e
        go_wp2_with (at_builtin; refine wp_own rfl (.tmp 35) (.tmp 37) 38 rfl 79 i1 _ 3 40 Tryz.underlying38 j1 j2 j3 j4 rfl (by decide) u6 k (L.flatMap ActR.cells) rfl HW4.out ⟨w3.heap.size, 0, none⟩ 1 1 (ActR.cells ⟨2, 0, none, 0, []⟩) rfl (by decide) rfl HN4.out (by intro u hu; simp [ActR.cells] at hu; rcases hu with rfl | rfl | rfl <;> rfl) (by unfold maxLen; omega) (by omega) ?_; intro g' c' w5 ho hf hg; have H5 : Hid (TpD w w5 D.nb (.slice (some ⟨g', 0, none⟩) (k + 1) c') (D.abs.T.drop n) (k + 1) (L ++ [⟨2, 0, none, 0, []⟩])) := HS.out.next HQ.out.1 HB4.out (HO3.out.on HA4.out) rfl (fun p hp => by cases hp) (HO5.out.on HA4.out) ho hf hg; clear ho hf hg)
        exact ⟨⟨k + 1, hlt, rfl, _, H5.out⟩, by simp [intOf]; omega⟩
    · have hkM : k = M := by omega
      go_wp2
      go_ret
      exact ⟨_, L, rfl, HS.out.tp.row, by rw [HS.out.tp.ab, List.take_of_length_le (by rw [List.length_drop, abs_tlen]; omega)], HS.out.tp.bel, HS.out.tp.own, HS.out.tp.adr, HS.out.dis, HS.out.own⟩
end Go.Proofs.YtamlbpbhlgmcoaaGreatDoor

namespace Go.Proofs.YtamlbpbhlgmcoaaGreatDoor
open Go.RowKit Rec

/-- act number i -/
def actN (L : List ActR) (i : Nat) : ActR := L.getD i ⟨0, 0, none, 0, []⟩
/-- how many writes stand just ahead of act i -/
def numA (L : List ActR) : Nat → Nat
  | 0 => 0
  | i + 1 => if (actN L i).kind = 1 then numA L i + 1 else 0
/-- does write i last? -/
def lastsB (L : List ActR) (i : Nat) (keep : List Bool) : Bool := decide (∃ j, j < L.length ∧ i < j ∧ (actN L j).kind = 2) || kpOf keep (numA L i)
/-- the document's image behind i acts -/
def lft (l : List Int) (L : List ActR) (keep : List Bool) : Nat → List Int
  | 0 => l
  | i + 1 => if (actN L i).kind = 1 ∧ lastsB L i keep = true then wr (lft l L keep i) (actN L i).b.toNat (actN L i).x else lft l L keep i
/-- all writes -/
def alw (l : List Int) (L : List ActR) : Nat → List Int
  | 0 => l
  | i + 1 => if (actN L i).kind = 1 then wr (alw l L i) (actN L i).b.toNat (actN L i).x else alw l L i
/-- what is pending behind i acts -/
def pnd (L : List ActR) : Nat → List (Nat × List Int)
  | 0 => []
  | i + 1 => if (actN L i).kind = 1 then pnd L i ++ [((actN L i).b.toNat, (actN L i).x)] else []
/-- what has lasted behind i acts -/
def lsf (l : List Int) (L : List ActR) : Nat → List Int
  | 0 => l
  | i + 1 => if (actN L i).kind = 1 then lsf l L i else lay (fun _ => true) (fun k => ((pnd L i).getD k (0, [])).1) (fun k => ((pnd L i).getD k (0, [])).2) (lsf l L i) (pnd L i).length
theorem lay_cong {kp kp' : Nat → Bool} {f f' : Nat → Nat} {X X' : Nat → List Int} {l : List Int} {n : Nat} (h : ∀ k, k < n → kp k = kp' k ∧ f k = f' k ∧ X k = X' k) : lay kp f X l n = lay kp' f' X' l n := by
  induction n with
  | zero => rfl
  | succ n ih => rw [lay, lay, ih (fun k hk => h k (by omega)), (h n (by omega)).1, (h n (by omega)).2.1, (h n (by omega)).2.2]
theorem takes_shape (nb : Nat) (l : List Int) (L : List ActR) (k : Nat) : ((AD0 nb l).takes L k).las = lsf l L k ∧ ((AD0 nb l).takes L k).P = pnd L k ∧ ((AD0 nb l).takes L k).at_ = 0 := by
  induction k with
  | zero => exact ⟨rfl, rfl, rfl⟩
  | succ k ih =>
    obtain ⟨h1, h2, h3⟩ := ih
    have e : (AD0 nb l).takes L (k + 1) = ((AD0 nb l).takes L k).tk1 (actN L k) := rfl
    rw [e]
    generalize (AD0 nb l).takes L k = A at *
    unfold AD.tk1
    rw [lsf, pnd]
    by_cases c : (actN L k).kind = 1
    · rw [if_pos c, if_pos c, if_pos c]
      have : A.write (actN L k).b.toNat (actN L k).x = { A with P := A.P ++ [((actN L k).b.toNat, (actN L k).x)], T := A.T ++ [(1, ((actN L k).b.toNat : Int), (actN L k).x)], wr := A.wr + 1 } := by
        unfold AD.write
        simp only [h3]
        simp [AD.tick]
      rw [this]
      exact ⟨h1, by rw [h2], h3⟩
    · rw [if_neg c, if_neg c, if_neg c]
      have : A.flush = ({ A with fl := A.fl + 1, T := A.T ++ [(2, 0, [])] } : AD).settle (fun _ => true) := by
        unfold AD.flush
        simp only [h3]
        simp [AD.tick]
      rw [this]
      refine ⟨?_, rfl, h3⟩
      show lay (fun _ => true) _ _ A.las A.P.length = _
      rw [h1, h2]
      refine lay_cong fun k _ => ⟨rfl, ?_, ?_⟩
      · simp [AD.f]
      · simp [AD.X]
theorem lay_snoc (kp : Nat → Bool) (P : List (Nat × List Int)) (p : Nat × List Int) (l : List Int) (h : kp P.length = true) : lay kp (fun k => ((P ++ [p]).getD k (0, [])).1) (fun k => ((P ++ [p]).getD k (0, [])).2) l (P ++ [p]).length = wr (lay kp (fun k => (P.getD k (0, [])).1) (fun k => (P.getD k (0, [])).2) l P.length) p.1 p.2 := by
  rw [List.length_append, List.length_singleton, lay, if_pos h]
  congr 1
  · refine lay_cong fun k hk => ⟨rfl, ?_, ?_⟩ <;> simp [List.getD, List.getElem?_append, hk]
  · simp [List.getD]
  · simp [List.getD]
theorem lsf_alw (l : List Int) (L : List ActR) (k : Nat) : lay (fun _ => true) (fun i => ((pnd L k).getD i (0, [])).1) (fun i => ((pnd L k).getD i (0, [])).2) (lsf l L k) (pnd L k).length = alw l L k := by
  induction k with
  | zero => rfl
  | succ k ih =>
    rw [pnd, lsf, alw]
    by_cases c : (actN L k).kind = 1
    · rw [if_pos c, if_pos c, if_pos c, lay_snoc _ _ _ _ rfl, ih]
    · rw [if_neg c, if_neg c, if_neg c, ← ih]; rfl
/-- behind the last flush -/
theorem last_flush (L : List ActR) (n : Nat) : ∃ m, m ≤ n ∧ (∀ i, m ≤ i → i < n → (actN L i).kind = 1) ∧ (m = 0 ∨ ¬ (actN L (m - 1)).kind = 1) := by
  induction n with
  | zero => exact ⟨0, Nat.le_refl _, fun i h1 h2 => by omega, .inl rfl⟩
  | succ n ih =>
    by_cases c : (actN L n).kind = 1
    · obtain ⟨m, h1, h2, h3⟩ := ih
      refine ⟨m, by omega, fun i hi hj => ?_, h3⟩
      by_cases e : i = n
      · subst e; exact c
      · exact h2 i hi (by omega)
    · exact ⟨n + 1, Nat.le_refl _, fun i h1 h2 => by omega, .inr c⟩
theorem behind_last (l : List Int) (L : List ActR) (m : Nat) (h3 : m = 0 ∨ ¬ (actN L (m - 1)).kind = 1) (t : Nat) (h2 : ∀ i, m ≤ i → i < m + t → (actN L i).kind = 1) :
    lsf l L (m + t) = alw l L m ∧ (pnd L (m + t)).length = t ∧ numA L (m + t) = t ∧ ∀ k, k < t → (pnd L (m + t)).getD k (0, []) = ((actN L (m + k)).b.toNat, (actN L (m + k)).x) := by
  induction t with
  | zero =>
    rw [Nat.add_zero]
    rcases h3 with rfl | h3
    · exact ⟨rfl, rfl, rfl, fun k hk => by omega⟩
    · cases m with
      | zero => exact ⟨rfl, rfl, rfl, fun k hk => by omega⟩
      | succ m =>
        rw [Nat.add_sub_cancel] at h3
        rw [lsf, pnd, numA, alw, if_neg h3, if_neg h3, if_neg h3, if_neg h3]
        exact ⟨lsf_alw l L m, rfl, rfl, fun k hk => by omega⟩
  | succ t ih =>
    have ih := ih (fun i h1 h2' => h2 i h1 (by omega))
    have c := h2 (m + t) (by omega) (by omega)
    rw [← Nat.add_assoc, lsf, pnd, numA, if_pos c, if_pos c, if_pos c]
    refine ⟨ih.1, by rw [List.length_append, ih.2.1]; rfl, by rw [ih.2.2.1], fun k hk => ?_⟩
    by_cases e : k = t
    · subst e
      simp [List.getD, ih.2.1]
    · have := ih.2.2.2 k (by omega)
      rw [← this]
      simp [List.getD, List.getElem?_append, ih.2.1, show k < t by omega]
/-- the document's image is what the disk leaves -/
theorem aft_lft (nb : Nat) (l : List Int) (L : List ActR) (keep : List Bool) (hk : ∀ i, i < L.length → (actN L i).kind = 1 ∨ (actN L i).kind = 2) : aft nb l L keep = lft l L keep L.length := by
  obtain ⟨m, hm, h2, h3⟩ := last_flush L L.length
  obtain ⟨t, ht⟩ : ∃ t, L.length = m + t := ⟨L.length - m, by omega⟩
  have hs := takes_shape nb l L L.length
  have hb := behind_last l L m h3 t (fun i h1 h4 => h2 i h1 (by omega))
  have hlow : ∀ i, i ≤ m → lft l L keep i = alw l L i := by
    intro i
    induction i with
    | zero => intro _; rfl
    | succ i ih =>
      intro hi
      rw [lft, alw, ih (by omega)]
      by_cases c : (actN L i).kind = 1
      · have hla : lastsB L i keep = true := by
          unfold lastsB
          rw [Bool.or_eq_true, decide_eq_true_eq]
          left
          rcases h3 with h3 | h3
          · omega
          · have hne : i ≠ m - 1 := fun e => h3 (by rw [← e]; exact c)
            refine ⟨m - 1, by omega, by omega, ?_⟩
            rcases hk (m - 1) (by omega) with h | h
            · exact absurd h h3
            · exact h
        rw [if_pos ⟨c, hla⟩, if_pos c]
      · rw [if_neg (fun h => c h.1), if_neg c]
  have hhigh : ∀ s, s ≤ t → lft l L keep (m + s) = lay (kpOf keep) (fun k => (actN L (m + k)).b.toNat) (fun k => (actN L (m + k)).x) (alw l L m) s := by
    intro s
    induction s with
    | zero => intro _; exact hlow m (Nat.le_refl _)
    | succ s ih =>
      intro hs'
      have c := h2 (m + s) (by omega) (by omega)
      have hnum := (behind_last l L m h3 s (fun i h1 h4 => h2 i h1 (by omega))).2.2.1
      have hla : lastsB L (m + s) keep = kpOf keep s := by
        unfold lastsB
        rw [hnum]
        have : ¬ ∃ j, j < L.length ∧ m + s < j ∧ (actN L j).kind = 2 := by
          rintro ⟨j, j1, j2, j3⟩
          have := h2 j (by omega) j1
          omega
        rw [decide_eq_false this, Bool.false_or]
      rw [← Nat.add_assoc, lft, lay, ih (by omega), hla]
      by_cases d : kpOf keep s = true
      · rw [if_pos ⟨c, d⟩, if_pos d]
      · rw [if_neg (fun h => d h.2), if_neg d]
  unfold aft AD.cut AD.settle
  show lay (kpOf keep) _ _ ((AD0 nb l).takes L L.length).las ((AD0 nb l).takes L L.length).P.length = _
  rw [hs.1, hs.2.1, ht, hb.1, hb.2.1, hhigh t (Nat.le_refl _)]
  refine lay_cong fun k hk' => ⟨rfl, ?_, ?_⟩
  · show (((AD0 nb l).takes L (m + t)).P.getD k (0, [])).1 = _
    rw [← ht, hs.2.1, ht, hb.2.2.2 k hk']
  · show (((AD0 nb l).takes L (m + t)).P.getD k (0, [])).2 = _
    rw [← ht, hs.2.1, ht, hb.2.2.2 k hk']
end Go.Proofs.YtamlbpbhlgmcoaaGreatDoor

namespace Go.Proofs.YtamlbpbhlgmcoaaGreatDoor
open Go.RowKit Rec

end Go.Proofs.YtamlbpbhlgmcoaaGreatDoor

namespace Go.Proofs.YtamlbpbhlgmcoaaGreatDoor
open Go.RowKit Rec

set_option maxRecDepth 100000 in
set_option maxHeartbeats 800000 in
theorem copied_any (w : World) (p : Addr) (n c : Nat) (l : List Int) (hb : Bytes w (some p) l) (hl : l.length = n) (h0 : 0 < n) (h47 : n ≤ 140737488351232) :
    Calls Tryz.prog 40 #[.slice (some p) n c] w fun e w' => ∃ g cap, e = .returned (.slice (some ⟨g, 0, none⟩) n cap) ∧ w.heap.size ≤ g ∧ OwnB w' g cap l ∧ Below w.heap.size w w' := by
  have HB : Hid (Bytes w (some p) l) := hb
  have HL : Hid (l.length = n) := hl
  clear hb hl
  go_enter Tryz.func40, Tryz.ntmps40
  go_wp2_with (at_builtin; refine wp_bown rfl (.tmp 4) (.tmp 5) rfl (.slice none 0 0) 0 [] rfl ⟨rfl, .inl ⟨rfl, rfl⟩⟩ p n c l rfl h0 HL.out HB.out (by omega) ?_; intro g cap w2 ho hf hg; have H2 : Hid (w.heap.size ≤ g ∧ OwnB w2 g cap l ∧ Below w.heap.size w w2) := ⟨hg.elim (fun e => by cases e) id, ownB_of (n := n) (by simpa using ho) HL.out (by omega) HB.out.wf, hf.below _ (fun j hj => by cases hj) (Nat.le_refl _)⟩; clear ho hf hg)
  go_ret
  exact ⟨_, _, by first | rfl | (rw [Nat.zero_add]; rfl), H2.out⟩
end Go.Proofs.YtamlbpbhlgmcoaaGreatDoor

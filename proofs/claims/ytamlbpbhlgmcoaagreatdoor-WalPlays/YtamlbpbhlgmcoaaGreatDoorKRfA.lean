import Derived.Test.YtamlbpbhlgmcoaaGreatDoorKAfR
import Derived.Deep.RegionHeld3
namespace Go.Proofs.YtamlbpbhlgmcoaaGreatDoor
open Go.RowKit Rec
/-- the document's disk, as it stands -/
structure RDk where
  r : Nat
  nb : Nat
  gf : Nat
  cf : Nat
  f : List Int
  av : Value
  L : List ActR
  kv : Value
  keep : List Bool
  left : Int
  out : Bool
  wr : Int
  fl : Int
def RDk.cells (D : RDk) : Array Value := #[.slice (some ⟨D.gf, 0, none⟩) (512 * D.nb) D.cf, D.av, D.kv, .int .i64 D.left, .bool D.out, .int .i64 D.wr, .int .i64 D.fl]
/-- an act that may be, its bytes in a row of their own -/
def RAct (w : World) (nb : Nat) (q : ActR) : Prop := (q.kind = 1 ∧ 0 ≤ q.b ∧ q.b < nb ∧ q.x.length = 512 ∧ ∃ g, q.a = some ⟨g, 0, none⟩ ∧ OwnB w g q.c q.x) ∨ (q.kind = 2 ∧ q.b = 0 ∧ q.a = none ∧ q.c = 0 ∧ q.x = [])
structure RDisk (w : World) (D : RDk) : Prop where
  box : w.heap[D.r]? = some (.cells D.cells 41 (0, 0))
  first : OwnB w D.gf D.cf D.f
  flen : D.f.length = 512 * D.nb
  nb0 : 1 ≤ D.nb ∧ D.nb ≤ 16384
  acts : w.ownsRow 0 79 3 D.av D.L.length (D.L.flatMap ActR.cells)
  each : ∀ q ∈ D.L, RAct w D.nb q
  keep : w.ownsRow 0 4 1 D.kv D.keep.length (D.keep.map Value.bool)
  llen : D.L.length ≤ 1000000000000
  lft : 0 ≤ D.left
theorem RAct.fr {S : Nat → Prop} {w w' : World} {nb : Nat} {q : ActR} (h : RAct w nb q) (x : Fr S w w') (hS : ∀ g c l, OwnB w g c l → ¬ S g) : RAct w' nb q := by
  rcases h with ⟨h1, h2, h3, h4, g, e, ho⟩ | h
  · exact .inl ⟨h1, h2, h3, h4, g, e, ownB_fr ho x (hS _ _ _ ho)⟩
  · exact .inr h
theorem RAct.on {w w' : World} {nb : Nat} {q : ActR} (h : RAct w nb q) (hb : Below w.heap.size w w') : RAct w' nb q := h.fr (below_fr hb (fun _ => False)) (fun _ _ _ _ e => e)
theorem RDisk.on {w w' : World} {D : RDk} (h : RDisk w D) (hb : Below w.heap.size w w') : RDisk w' D :=
  ⟨(hb.block _ (heap_lt h.box)).trans h.box, h.first.on hb, h.flen, h.nb0, owns_fr h.acts (below_fr hb (fun _ => False)) (fun _ _ e => e), fun q hq => (h.each q hq).on hb, owns_fr h.keep (below_fr hb (fun _ => False)) (fun _ _ e => e), h.llen, h.lft⟩
theorem RDisk.cell {w : World} {D : RDk} (h : RDisk w D) (i : Nat) : w.cell? ⟨D.r, i, none⟩ = D.cells[i]? := cell_of_row _ _ _ _ _ _ h.box
theorem RDisk.frozen {w : World} {D : RDk} (h : RDisk w D) (i : Nat) : w.frozen? ⟨D.r, i, none⟩ = false := frozen_of_row _ _ i _ _ h.box
theorem ownB_ne {w : World} {g c p : Nat} {l : List Int} {cs : Array Value} {t : Nat} {fz : Nat × Nat} (h : OwnB w g c l) (h' : w.heap[p]? = some (.cells cs t fz)) (hne : t ≠ 5) : g ≠ p := by
  intro e
  subst e
  obtain ⟨cur, h1, _⟩ := h.row
  rw [h'] at h1
  injection h1 with h1
  injection h1 with _ h2 _
  exact hne h2
/-- a write into its box -/
theorem RDisk.put {w : World} {D D' : RDk} (h : RDisk w D) (i : Nat) (v : Value) (he : D'.cells = D.cells.setIfInBounds i v) (hr : D'.r = D.r) (hn : D'.nb = D.nb) (hg : D'.gf = D.gf ∧ D'.cf = D.cf ∧ D'.f = D.f) (ha : D'.av = D.av ∧ D'.L = D.L) (hk : D'.kv = D.kv ∧ D'.keep = D.keep) (hl : 0 ≤ D'.left) : RDisk (w.setCell ⟨D.r, i, none⟩ v) D' ∧ Fr (fun k => k = D.r) w (w.setCell ⟨D.r, i, none⟩ v) := by
  have x : Fr (fun k => k = D.r) w (w.setCell ⟨D.r, i, none⟩ v) := Fr.set
  have hB : ∀ g c l, OwnB w g c l → ¬ g = D.r := fun g c l ho => ownB_ne ho h.box (by decide)
  refine ⟨⟨?_, ?_, by rw [hg.2.2, hn]; exact h.flen, by rw [hn]; exact h.nb0, ?_, ?_, ?_, by rw [ha.2]; exact h.llen, hl⟩, x⟩
  · rw [hr, he]; exact heap_setCell_same _ _ _ _ _ _ h.box
  · rw [hg.1, hg.2.1, hg.2.2]; exact ownB_fr h.first x (hB _ _ _ h.first)
  · rw [ha.1, ha.2]; exact owns_fr h.acts x (fun k hk e => own_apartX h.acts h.box (by decide) (by rw [hk, e]))
  · rw [ha.2, hn]; exact fun q hq => (h.each q hq).fr x hB
  · rw [hk.1, hk.2]; exact owns_fr h.keep x (fun k hk e => own_apartX h.keep h.box (by decide) (by rw [hk, e]))
/-- a step: does the power go? -/
def RDk.goes (D : RDk) : RDk := if D.left = 0 then D else { D with left := D.left - 1, out := decide (D.left - 1 = 0) }
def RDk.gone (D : RDk) : Bool := decide (D.left = 1)
set_option maxRecDepth 100000 in
set_option maxHeartbeats 1600000 in
theorem rgoes_any (w : World) (D : RDk) (h : RDisk w D) (ho : D.out = false) (hl : D.left ≤ 9223372036854775807) : Calls Tryz.prog 68 #[.pointer (some ⟨D.r, 0, none⟩)] w fun e w' => e = .returned (.bool D.gone) ∧ RDisk w' D.goes ∧ Fr (fun k => k = D.r) w w' := by
  have c3 := h.cell 3
  have c4 := h.cell 4
  have f3 := h.frozen 3
  have f4 := h.frozen 4
  have h0 := h.lft
  have HD : Hid (RDisk w D) := h
  clear h
  obtain ⟨r, nb, gf, cf, f, av, L, kv, keep, left, out, wr, fl⟩ := D
  dsimp only at ho hl h0 c3 c4 f3 f4
  subst ho
  replace c3 : w.cell? ⟨r, 3, none⟩ = some (.int .i64 left) := c3
  replace c4 : w.cell? ⟨r, 4, none⟩ = some (.bool false) := c4
  by_cases hz : left = 0
  · subst hz
    go_enter Tryz.func68, Tryz.ntmps68
    go_wp2
    go_ret
    exact ⟨rfl, HD.out, Fr.refl _ _⟩
  · have h1 : -9223372036854775808 ≤ left - 1 ∧ left - 1 ≤ 9223372036854775807 := by omega
    obtain ⟨g1, g2⟩ := HD.out.put (D' := ⟨r, nb, gf, cf, f, av, L, kv, keep, left - 1, false, wr, fl⟩) 3 (.int .i64 (left - 1)) rfl rfl rfl ⟨rfl, rfl, rfl⟩ ⟨rfl, rfl⟩ ⟨rfl, rfl⟩ (by show 0 ≤ left - 1; omega)
    obtain ⟨w1, hw1⟩ : ∃ w1, w.setCell ⟨r, 3, none⟩ (.int .i64 (left - 1)) = w1 := ⟨_, rfl⟩
    have g1' : RDisk w1 ⟨r, nb, gf, cf, f, av, L, kv, keep, left - 1, false, wr, fl⟩ := by rw [← hw1]; exact g1
    have g2' : Fr (fun k => k = r) w w1 := by rw [← hw1]; exact g2
    have d3 : w1.cell? ⟨r, 3, none⟩ = some (.int .i64 (left - 1)) := g1'.cell 3
    have d4 : w1.cell? ⟨r, 4, none⟩ = some (.bool false) := g1'.cell 4
    have e4 := g1'.frozen 4
    have HQ : Hid (RDisk w1 ⟨r, nb, gf, cf, f, av, L, kv, keep, left - 1, false, wr, fl⟩ ∧ Fr (fun k => k = r) w w1) := ⟨g1', g2'⟩
    clear g1 g2 g1' g2'
    obtain ⟨k1, k2⟩ := HQ.out.1.put (D' := ⟨r, nb, gf, cf, f, av, L, kv, keep, left - 1, decide (left - 1 = 0), wr, fl⟩) 4 (.bool (decide (left - 1 = 0))) rfl rfl rfl ⟨rfl, rfl, rfl⟩ ⟨rfl, rfl⟩ ⟨rfl, rfl⟩ (by show 0 ≤ left - 1; omega)
    obtain ⟨w2, hw2⟩ : ∃ w2, w1.setCell ⟨r, 4, none⟩ (.bool (decide (left - 1 = 0))) = w2 := ⟨_, rfl⟩
    rw [hw2] at k1 k2
    have d5 : w2.cell? ⟨r, 4, none⟩ = some (.bool (decide (left - 1 = 0))) := k1.cell 4
    have HR : Hid (RDisk w2 ⟨r, nb, gf, cf, f, av, L, kv, keep, left - 1, decide (left - 1 = 0), wr, fl⟩ ∧ Fr (fun k => k = r) w w2) := ⟨k1, HQ.out.2.trans k2 (fun _ e => .inl e)⟩
    clear k1 k2
    have hg : RDk.gone ⟨r, nb, gf, cf, f, av, L, kv, keep, left, false, wr, fl⟩ = decide (left - 1 = 0) := by
      unfold RDk.gone
      exact decide_eq_decide.2 (by show left = 1 ↔ left - 1 = 0; omega)
    have hgo : RDk.goes ⟨r, nb, gf, cf, f, av, L, kv, keep, left, false, wr, fl⟩ = ⟨r, nb, gf, cf, f, av, L, kv, keep, left - 1, decide (left - 1 = 0), wr, fl⟩ := by
      unfold RDk.goes
      rw [if_neg (show ¬ left = 0 from hz)]
    rw [hg, hgo]
    obtain ⟨bz, hbz⟩ : ∃ bz, decide (left - 1 = 0) = bz := ⟨_, rfl⟩
    rw [hbz] at hw2 d5 HR ⊢
    have hbq : (left - 1 == 0) = bz := hbz
    go_enter Tryz.func68, Tryz.ntmps68
    go_wp2
    go_ret
    exact ⟨rfl, HR.out⟩
end Go.Proofs.YtamlbpbhlgmcoaaGreatDoor

namespace Go.Proofs.YtamlbpbhlgmcoaaGreatDoor
open Go.RowKit Rec
set_option maxRecDepth 100000 in
theorem app_zeroB (w : World) (a : Option Addr) (c : Nat) : (Builtin.append_ #[37, 37] 37 #[.slice none 0 0, .slice a 0 c]).run Tryz.prog w = .ok (.slice none 0 0) w := by
  obtain ⟨i0, hi, hz0, hz1, hz2⟩ := info_parts info5
  cases a <;> simp [Builtin.append_, run_underlying Tryz.underlying37, sizeOf, typeInfo, hi, Builtin.lenOf, Builtin.firstCells, loadCells, loadCellsFrom]
theorem wp_zeroB {ops : Array Oper} {rest : List Oper} {o : Oper} {a : Act} {Q : Exit → Act → World → Prop} {w : World} (hgd : o.guard = none) (s x : Operand)
    (ho : o.op = .call { callee := .builtin .append, args := #[s, x], argTypes := #[37, 37] }) (hty : o.type = 37) (hs : a.eval s = .slice none 0 0) (ad : Option Addr) (c : Nat) (hx : a.eval x = .slice ad 0 c)
    (h : wpList Tryz.prog ops Q rest (a.put o.dst (.slice none 0 0)) w) : wpList Tryz.prog ops Q (o :: rest) a w := by
  refine wpList_plain hgd fun K hK => ?_
  unfold Oper.wp execOp
  simp only [ho, hty, resolve, invoke, builtin, Sem.run_bind, Sem.run_pure, Result.andThen_ok, List.map_toArray, List.map_cons, List.map_nil, hs, hx, app_zeroB w ad c]
  exact hK _ _ h
set_option maxRecDepth 100000 in
theorem copied_nil (w : World) (a : Option Addr) (c : Nat) : Calls Tryz.prog 40 #[.slice a 0 c] w fun e w' => e = .returned (.slice none 0 0) ∧ w = w' := by
  go_enter Tryz.func40, Tryz.ntmps40
  go_wp2_with (at_builtin; refine wp_zeroB rfl (.tmp 4) (.tmp 5) rfl rfl rfl a c rfl ?_)
  go_ret
  exact ⟨rfl, rfl⟩
/-- copied bytes: in a row of their own, or none -/
theorem copiedU (w : World) (a : Option Addr) (n c : Nat) (l : List Int) (hb : Bytes w a l) (hl : l.length = n) (h47 : n ≤ 140737488351232) : Calls Tryz.prog 40 #[.slice a n c] w fun e w' => ∃ v cap, e = .returned (.slice v n cap) ∧ RwA w.heap.size w' v cap l ∧ Below w.heap.size w w' := by
  by_cases h0 : n = 0
  · subst h0
    refine (copied_nil w a c).mono ?_
    rintro e w' ⟨rfl, rfl⟩
    exact ⟨none, 0, rfl, .inl ⟨List.eq_nil_of_length_eq_zero hl, rfl, rfl⟩, Below.refl _ _⟩
  · obtain ⟨p, rfl⟩ : ∃ p, a = some p := by
      rcases hb.at_ with e | ⟨b, o, e, _⟩
      · subst e; simp at hl; omega
      · exact ⟨_, e⟩
    refine (copied_any w p n c l hb hl (by omega) h47).mono ?_
    rintro e w' ⟨g, cap, rfl, h1, h2, h3⟩
    exact ⟨_, cap, rfl, .inr ⟨g, rfl, h2, h1⟩, h3⟩
set_option maxRecDepth 100000 in
theorem rblocks_q (w : World) (D : RDk) (h : RDisk w D) (q : Nat) : Calls Tryz.prog 60 #[.pointer (some ⟨D.r, 0, none⟩)] (w.drewN q) fun e w' => e = .returned (.int .i64 (D.nb : Int)) ∧ ∃ m, w' = (w.drewN q).drewN m := by
  have c0 : (w.drewN q).cell? ⟨D.r, 0, none⟩ = some (.slice (some ⟨D.gf, 0, none⟩) (512 * D.nb) D.cf) := h.cell 0
  have hw : wrap64 (D.nb : Int) = D.nb := by have := h.nb0; unfold wrap64; omega
  clear h
  go_enter Tryz.func60, Tryz.ntmps60
  go_wp2
  go_ret
  exact ⟨by show Ending.returned (Value.int .i64 (wrap64 (D.nb : Int))) = _; rw [hw], 0, rfl⟩
/-- one act more -/
theorem RDisk.add {w w1 : World} {D : RDk} {q : ActR} {b cap : Nat} (h : RDisk w D) (hq : RAct w D.nb q) (h1 : w1.ownsRow 0 79 3 (.slice (some ⟨b, 0, none⟩) (D.L.length + 1) cap) (D.L.length + 1) (D.L.flatMap ActR.cells ++ q.cells)) (h2 : Fr (fun k => D.av.ownBlock = some k) w w1) (hl : D.L.length + 1 ≤ 1000000000000) :
    w1.heap[D.r]? = some (.cells D.cells 41 (0, 0)) ∧ RDisk (w1.setCell ⟨D.r, 1, none⟩ (.slice (some ⟨b, 0, none⟩) (D.L.length + 1) cap)) { D with av := .slice (some ⟨b, 0, none⟩) (D.L.length + 1) cap, L := D.L ++ [q] } ∧ Fr (fun k => k = D.r ∨ D.av.ownBlock = some k) w (w1.setCell ⟨D.r, 1, none⟩ (.slice (some ⟨b, 0, none⟩) (D.L.length + 1) cap)) := by
  have hbox : w1.heap[D.r]? = some (.cells D.cells 41 (0, 0)) := h2.heap h.box (fun e => own_apartX h.acts h.box (by decide) e)
  have hB : ∀ g c l, OwnB w g c l → OwnB w1 g c l := fun g c l ho => ownB_fr ho h2 (fun e => own_apart7 h.acts ho (by decide) e)
  have x : Fr (fun k => k = D.r) w1 (w1.setCell ⟨D.r, 1, none⟩ (.slice (some ⟨b, 0, none⟩) (D.L.length + 1) cap)) := Fr.set
  have hB2 : ∀ g c l, OwnB w1 g c l → OwnB (w1.setCell ⟨D.r, 1, none⟩ (.slice (some ⟨b, 0, none⟩) (D.L.length + 1) cap)) g c l := fun g c l ho => ownB_fr ho x (ownB_ne ho hbox (by decide))
  have hA : ∀ p, RAct w D.nb p → RAct (w1.setCell ⟨D.r, 1, none⟩ (.slice (some ⟨b, 0, none⟩) (D.L.length + 1) cap)) D.nb p := fun p hp => by
    rcases hp with ⟨a1, a2, a3, a4, g, e, ho⟩ | hp
    · exact .inl ⟨a1, a2, a3, a4, g, e, hB2 _ _ _ (hB _ _ _ ho)⟩
    · exact .inr hp
  refine ⟨hbox, ⟨?_, hB2 _ _ _ (hB _ _ _ h.first), h.flen, h.nb0, ?_, ?_, ?_, ?_, h.lft⟩, (h2.mono (fun k hk => .inr hk)).trans x (fun k hk => .inl (.inl hk))⟩
  · exact heap_setCell_same _ _ _ _ _ _ hbox
  · have e : (D.L ++ [q]).flatMap ActR.cells = D.L.flatMap ActR.cells ++ q.cells := by simp
    show (w1.setCell _ _).ownsRow 0 _ 3 _ (D.L ++ [q]).length ((D.L ++ [q]).flatMap ActR.cells)
    rw [e, List.length_append]
    exact owns_fr h1 x (fun k hk e => own_apartX h1 hbox (by decide) (by rw [hk, e]))
  · intro p hp
    rcases List.mem_append.1 hp with hp | hp
    · exact hA p (h.each p hp)
    · rw [List.mem_singleton.1 hp]; exact hA q hq
  · have hk1 : w1.ownsRow 0 4 1 D.kv D.keep.length (D.keep.map Value.bool) := owns_fr h.keep h2 (fun k hk e => own_apartO h.keep h.acts (by decide) k hk e)
    exact owns_fr hk1 x (fun k hk e => own_apartX hk1 hbox (by decide) (by rw [hk, e]))
  · show (D.L ++ [q]).length ≤ _
    rw [List.length_append]; exact hl
end Go.Proofs.YtamlbpbhlgmcoaaGreatDoor

namespace Go.Proofs.YtamlbpbhlgmcoaaGreatDoor
open Go.RowKit Rec
theorem rdblocks_any (w : World) (D : RDk) (h : RDisk w D) : Calls Tryz.prog 60 #[.pointer (some ⟨D.r, 0, none⟩)] w fun e w' => e = .returned (.int .i64 (D.nb : Int)) ∧ Below w.heap.size w w' := by
  refine (rblocks_q w D h 0).mono ?_
  rintro e w' ⟨h1, m, rfl⟩
  exact ⟨h1, ⟨rfl, rfl, rfl, Nat.le_refl _, fun _ _ => rfl⟩⟩
set_option maxRecDepth 100000 in
set_option maxHeartbeats 1600000 in
theorem rwrite_out (w : World) (D : RDk) (h : RDisk w D) (ho : D.out = true) (i : Int) (a : Option Addr) (n c : Nat) : Calls Tryz.prog 30 #[.pointer (some ⟨D.r, 0, none⟩), .int .i64 i, .slice a n c] w fun e w' => e = .returned (.int .i64 30) ∧ w = w' := by
  have c4 : w.cell? ⟨D.r, 4, none⟩ = some (.bool true) := by rw [h.cell 4, ← ho]; rfl
  clear h
  go_enter Tryz.func30, Tryz.ntmps30
  go_wp2
  go_ret
  exact ⟨rfl, rfl⟩
/-- what a refused or taken write answers -/
def wq (i : Int) (l : List Int) : ActR := ⟨1, i, none, 0, l⟩
set_option maxRecDepth 100000 in
set_option maxHeartbeats 4000000 in
theorem rwrite_head (w : World) (D : RDk) (h : RDisk w D) (ho : D.out = false) (i : Int) (a : Option Addr) (n c : Nat) (l : List Int) (hb : Bytes w a l) (hl : l.length = n) (h47 : n ≤ 140737488351232) (he : actE D.nb (wq i l) ≠ 0) :
    Calls Tryz.prog 30 #[.pointer (some ⟨D.r, 0, none⟩), .int .i64 i, .slice a n c] w fun e w' => e = .returned (.int .i64 (actE D.nb (wq i l))) ∧ Below w.heap.size w w' := by
  have c4 : w.cell? ⟨D.r, 4, none⟩ = some (.bool false) := by rw [h.cell 4, ← ho]; rfl
  have CC : Hid (Calls Tryz.prog 40 #[.slice a n c] w fun e w' => ∃ v cap, e = .returned (.slice v n cap) ∧ RwA w.heap.size w' v cap l ∧ Below w.heap.size w w') := copiedU w a n c l hb hl h47
  have HD : Hid (RDisk w D ∧ l.length = n) := ⟨h, hl⟩
  have hlen := hb.len
  clear h hb hl
  obtain ⟨E, hE⟩ : ∃ E, actE D.nb (wq i l) = E := ⟨_, rfl⟩
  rw [hE] at he ⊢
  go_enter Tryz.func30, Tryz.ntmps30
  go_upto_region 4 with (go_at_call 40; refine CC.out.mono ?_; rintro e w1 ⟨v, cap, rfl, h1, h2⟩; have H1 : Hid (RwA w.heap.size w1 v cap l ∧ Below w.heap.size w w1) := ⟨h1, h2⟩; clear h1 h2)
  obtain ⟨P, hP⟩ : ∃ P, w1.heap.size = P := ⟨_, rfl⟩
  obtain ⟨w2, hw2⟩ : ∃ w2, w1.alloc (.cells #[.int .i64 1, .int .i64 i, .slice v n cap] 79) = w2 := ⟨_, rfl⟩
  have H2 : Hid (Below w.heap.size w w2 ∧ w2.heap[P]? = some (.cells #[.int .i64 1, .int .i64 i, .slice v n cap] 79 (0, 0))) := by
    rw [← hw2, ← hP]; exact ⟨H1.out.2.alloc H1.out.2.size _, heap_alloc_new _ _⟩
  rw [hw2, hP]
  clear hw2 hP
  have CB : Hid (∀ wx, Below w2.heap.size w2 wx → Calls Tryz.prog 60 #[.pointer (some ⟨D.r, 0, none⟩)] wx fun e w' => e = .returned (.int .i64 (D.nb : Int)) ∧ Below wx.heap.size wx w') := fun wx hb => rdblocks_any wx D ((HD.out.1.on H2.out.1).on hb)
  have CF : Hid (∀ wx, Calls Tryz.prog 67 #[.int .i64 (D.nb : Int), .agg #[.int .i64 1, .int .i64 i, .slice v n cap]] wx fun e w' => e = .returned (.int .i64 (actE D.nb (wq i l))) ∧ Below wx.heap.size wx w') := fun wx => by
    have hf := rfault_any wx D.nb ⟨1, i, v, cap, l⟩ HD.out.1.nb0.2 hlen
    rw [HD.out.2] at hf
    exact hf
  have HC : Hid (∀ wx, Below w2.heap.size w2 wx → wx.cell? ⟨P, 0, none⟩ = some (.int .i64 1) ∧ wx.cell? ⟨P, 1, none⟩ = some (.int .i64 i) ∧ wx.cell? ⟨P, 2, none⟩ = some (.slice v n cap)) := fun wx hb => by
    have hz := (hb.block P (heap_lt H2.out.2)).trans H2.out.2
    exact ⟨cell_of_row _ _ 0 _ _ _ hz, cell_of_row _ _ 1 _ _ _ hz, cell_of_row _ _ 2 _ _ _ hz⟩
  have x0 := HC.out w2 (Below.refl _ _)
  rw [hE] at CF
  clear hE CC
  have HB : Hid (Below w2.heap.size w2 w2.drew) := (Below.refl _ _).drew
  go_region_held3 (fun w' => w'.cell? ⟨P, 0, none⟩ = some (.int .i64 1) ∧ w'.cell? ⟨P, 1, none⟩ = some (.int .i64 i) ∧ w'.cell? ⟨P, 2, none⟩ = some (.slice v n cap)) (first | assumption | exact x0 | go_keep)
    (first
      | (go_at_call 60; refine (CB.out _ (by first | exact HB.out | exact Below.refl _ _)).mono ?_; rintro e u1 ⟨rfl, hb1⟩
         have G1 : Hid (Below w2.heap.size w2 u1) := (by first | exact HB.out.trans (hb1.mono HB.out.size) | exact hb1)
         have x1 := HC.out u1 G1.out
         clear hb1)
      | (go_at_call 67; refine (CF.out _).mono ?_; rintro e u2 ⟨rfl, hb2⟩
         have G2 : Hid (Below w2.heap.size w2 u2) := (by first | exact G1.out.trans (hb2.mono G1.out.size) | exact (G1.out.drew).trans (hb2.mono G1.out.size))
         have x2 := HC.out u2 G2.out
         clear hb2))
  all_goals
    go_wp2
    go_ret
    exact ⟨rfl, H2.out.1.trans (G2.out.mono H2.out.1.size)⟩
end Go.Proofs.YtamlbpbhlgmcoaaGreatDoor

namespace Go.Proofs.YtamlbpbhlgmcoaaGreatDoor
open Go.RowKit Rec
theorem radd4 {w w3 wx w4 : World} {D : RDk} {q : ActR} {b cap : Nat} (h : RDisk w3 { D with wr := D.wr + 1 }) (hq : RAct w3 D.nb q) (hA : Below w3.heap.size w3 wx) (h1 : w4.ownsRow 0 79 3 (.slice (some ⟨b, 0, none⟩) (D.L.length + 1) cap) (D.L.length + 1) (D.L.flatMap ActR.cells ++ q.cells)) (h2 : Fr (fun k => D.av.ownBlock = some k) wx w4) (hl : D.L.length + 1 ≤ 1000000000000) (hw : Fr (fun k => k = D.r) w w3) :
    w4.heap[D.r]? = some (.cells ({ D with wr := D.wr + 1 } : RDk).cells 41 (0, 0)) ∧ RDisk (w4.setCell ⟨D.r, 1, none⟩ (.slice (some ⟨b, 0, none⟩) (D.L.length + 1) cap)) { D with wr := D.wr + 1, av := .slice (some ⟨b, 0, none⟩) (D.L.length + 1) cap, L := D.L ++ [q] } ∧ Fr (fun k => k = D.r ∨ D.av.ownBlock = some k) w (w4.setCell ⟨D.r, 1, none⟩ (.slice (some ⟨b, 0, none⟩) (D.L.length + 1) cap)) := by
  obtain ⟨a1, a2, a3⟩ := (h.on hA).add (q := q) (hq.on hA) h1 h2 hl
  exact ⟨a1, a2, ((hw.mono (fun k e => .inl e)).trans (below_fr hA (fun _ => False)) (fun _ e => e.elim)).trans a3 (fun k e => .inl e)⟩
theorem newsA (W : World) (P : Nat) (x y z : Value) (t : Nat) (h : W.heap[P]? = some (.cells #[x, y, z] t (0, 0))) (j : Nat) (u : Value) (hj : [x, y, z][j]? = some u) : W.cell? ((⟨P, 0, none⟩ : Addr).add j) = some u := by
  match j, hj with
  | 0, hj => cases hj; rw [Addr.add_lit, cell_of_row _ _ _ _ _ _ h]; rfl
  | 1, hj => cases hj; rw [Addr.add_lit, cell_of_row _ _ _ _ _ _ h]; rfl
  | 2, hj => cases hj; rw [Addr.add_lit, cell_of_row _ _ _ _ _ _ h]; rfl
/-- behind a write -/
def RWr (w : World) (D : RDk) (i : Int) (l : List Int) (w' : World) : Prop := ∃ b bc g cap, RDisk w' (RDk.goes { D with wr := D.wr + 1, av := .slice (some ⟨b, 0, none⟩) (D.L.length + 1) bc, L := D.L ++ [⟨1, i, some ⟨g, 0, none⟩, cap, l⟩] }) ∧ Fr (fun k => k = D.r ∨ D.av.ownBlock = some k) w w' ∧ (D.av.ownBlock = some b ∨ w.heap.size ≤ b) ∧ w.heap.size ≤ g
set_option maxRecDepth 100000 in
set_option maxHeartbeats 4000000 in
theorem rwrite_ok (w : World) (D : RDk) (h : RDisk w D) (ho : D.out = false) (i : Int) (a : Option Addr) (n c : Nat) (l : List Int) (hb : Bytes w a l) (hl : l.length = n) (h47 : n ≤ 140737488351232) (hi : 0 ≤ i ∧ i < D.nb) (h512 : n = 512) (hwr : -9223372036854775808 ≤ D.wr ∧ D.wr + 1 ≤ 9223372036854775807) (hL : D.L.length + 1 ≤ 1000000000000) (hlt : D.left ≤ 9223372036854775807) :
    Calls Tryz.prog 30 #[.pointer (some ⟨D.r, 0, none⟩), .int .i64 i, .slice a n c] w fun e w' => e = .returned (.int .i64 (if D.gone then 30 else 0)) ∧ RWr w D i l w' := by
  have c4 : w.cell? ⟨D.r, 4, none⟩ = some (.bool false) := by rw [h.cell 4, ← ho]; rfl
  have CC : Hid (Calls Tryz.prog 40 #[.slice a n c] w fun e w' => ∃ v cap, e = .returned (.slice v n cap) ∧ RwA w.heap.size w' v cap l ∧ Below w.heap.size w w') := copiedU w a n c l hb hl h47
  have HD : Hid (RDisk w D ∧ l.length = n) := ⟨h, hl⟩
  have hlen := hb.len
  clear h hb hl
  have HO : Hid (D.out = false) := ho
  have HN : Hid (n = 512 ∧ (0 ≤ i ∧ i < D.nb)) := ⟨h512, hi⟩
  clear h512 hi
  have hE : actE D.nb (wq i l) = 0 := by
    unfold actE wq
    rw [if_pos rfl, if_pos HN.out.2, if_pos (by rw [HD.out.2]; exact HN.out.1)]
  obtain ⟨aa, la, hav, _⟩ := owns_slice HD.out.1.acts
  go_enter Tryz.func30, Tryz.ntmps30
  go_upto_region 4 with (go_at_call 40; refine CC.out.mono ?_; rintro e w1 ⟨v, cap, rfl, h1, h2⟩; have H1 : Hid (RwA w.heap.size w1 v cap l ∧ Below w.heap.size w w1) := ⟨h1, h2⟩; clear h1 h2)
  obtain ⟨P, hP⟩ : ∃ P, w1.heap.size = P := ⟨_, rfl⟩
  obtain ⟨w2, hw2⟩ : ∃ w2, w1.alloc (.cells #[.int .i64 1, .int .i64 i, .slice v n cap] 79) = w2 := ⟨_, rfl⟩
  have H2 : Hid (Below w.heap.size w w2 ∧ w2.heap[P]? = some (.cells #[.int .i64 1, .int .i64 i, .slice v n cap] 79 (0, 0))) := by
    rw [← hw2, ← hP]; exact ⟨H1.out.2.alloc H1.out.2.size _, heap_alloc_new _ _⟩
  rw [hw2, hP]
  have hw2' := hw2
  clear hw2 hP
  have CB : Hid (∀ wx, Below w2.heap.size w2 wx → Calls Tryz.prog 60 #[.pointer (some ⟨D.r, 0, none⟩)] wx fun e w' => e = .returned (.int .i64 (D.nb : Int)) ∧ Below wx.heap.size wx w') := fun wx hb => rdblocks_any wx D ((HD.out.1.on H2.out.1).on hb)
  have CF : Hid (∀ wx, Calls Tryz.prog 67 #[.int .i64 (D.nb : Int), .agg #[.int .i64 1, .int .i64 i, .slice v n cap]] wx fun e w' => e = .returned (.int .i64 (actE D.nb (wq i l))) ∧ Below wx.heap.size wx w') := fun wx => by
    have hf := rfault_any wx D.nb ⟨1, i, v, cap, l⟩ HD.out.1.nb0.2 hlen
    rw [HD.out.2] at hf
    exact hf
  have HC : Hid (∀ wx, Below w2.heap.size w2 wx → wx.cell? ⟨P, 0, none⟩ = some (.int .i64 1) ∧ wx.cell? ⟨P, 1, none⟩ = some (.int .i64 i) ∧ wx.cell? ⟨P, 2, none⟩ = some (.slice v n cap)) := fun wx hb => by
    have hz := (hb.block P (heap_lt H2.out.2)).trans H2.out.2
    exact ⟨cell_of_row _ _ 0 _ _ _ hz, cell_of_row _ _ 1 _ _ _ hz, cell_of_row _ _ 2 _ _ _ hz⟩
  have x0 := HC.out w2 (Below.refl _ _)
  rw [hE] at CF
  clear hE CC
  have HB : Hid (Below w2.heap.size w2 w2.drew) := (Below.refl _ _).drew
  go_region_held3 (fun w' => w'.cell? ⟨P, 0, none⟩ = some (.int .i64 1) ∧ w'.cell? ⟨P, 1, none⟩ = some (.int .i64 i) ∧ w'.cell? ⟨P, 2, none⟩ = some (.slice v n cap)) (first | assumption | exact x0 | go_keep)
    (first
      | (go_at_call 60; refine (CB.out _ (by first | exact HB.out | exact Below.refl _ _)).mono ?_; rintro e u1 ⟨rfl, hb1⟩
         have G1 : Hid (Below w2.heap.size w2 u1) := (by first | exact HB.out.trans (hb1.mono HB.out.size) | exact hb1)
         have x1 := HC.out u1 G1.out
         clear hb1)
      | (go_at_call 67; refine (CF.out _).mono ?_; rintro e u2 ⟨rfl, hb2⟩
         have G2 : Hid (Below w2.heap.size w2 u2) := (by first | exact G1.out.trans (hb2.mono G1.out.size) | exact (G1.out.drew).trans (hb2.mono G1.out.size))
         have x2 := HC.out u2 G2.out
         clear hb2))
  obtain ⟨gb, rfl, hOb, hgb⟩ : ∃ gb, v = some ⟨gb, 0, none⟩ ∧ OwnB w1 gb cap l ∧ w.heap.size ≤ gb := by
    rcases H1.out.1 with ⟨e, _⟩ | ⟨g, e, ho, hge⟩
    · have := HD.out.2; have h5 := HN.out.1; rw [e] at this; simp at this; omega
    · exact ⟨g, e, ho, hge⟩
  have HGB : Hid (w.heap.size ≤ gb) := hgb
  clear hgb
  have HU : Hid (RDisk u2 D ∧ Below w.heap.size w u2 ∧ u2.heap[P]? = some (.cells #[.int .i64 1, .int .i64 i, .slice (some ⟨gb, 0, none⟩) n cap] 79 (0, 0))) := by
    have hbw : Below w.heap.size w u2 := H2.out.1.trans (G2.out.mono H2.out.1.size)
    exact ⟨HD.out.1.on hbw, hbw, (G2.out.block P (heap_lt H2.out.2)).trans H2.out.2⟩
  have c5 : u2.cell? ⟨D.r, 5, none⟩ = some (.int .i64 D.wr) := HU.out.1.cell 5
  have f5 := HU.out.1.frozen 5
  obtain ⟨p1, p2⟩ := HU.out.1.put (D' := { D with wr := D.wr + 1 }) 5 (.int .i64 (D.wr + 1)) rfl rfl rfl ⟨rfl, rfl, rfl⟩ ⟨rfl, rfl⟩ ⟨rfl, rfl⟩ HU.out.1.lft
  obtain ⟨w3, hw3⟩ : ∃ w3, u2.setCell ⟨D.r, 5, none⟩ (.int .i64 (D.wr + 1)) = w3 := ⟨_, rfl⟩
  rw [hw3] at p1 p2
  have hPr : P ≠ D.r := by
    intro e
    have h1 := HU.out.2.2
    rw [e, HU.out.1.box] at h1
    injection h1 with h1
    injection h1 with _ h2 _
    exact absurd h2 (by decide)
  have hz3 := p2.heap HU.out.2.2 hPr
  have y0 : w3.cell? ⟨P, 0, none⟩ = some (.int .i64 1) := cell_of_row _ _ 0 _ _ _ hz3
  have y1 : w3.cell? ⟨P, 1, none⟩ = some (.int .i64 i) := cell_of_row _ _ 1 _ _ _ hz3
  have y2 : w3.cell? ⟨P, 2, none⟩ = some (.slice (some ⟨gb, 0, none⟩) n cap) := cell_of_row _ _ 2 _ _ _ hz3
  have y3 : w3.cell? ⟨D.r, 1, none⟩ = some (.slice aa D.L.length la) := by rw [← hav]; exact p1.cell 1
  have H3 : Hid (RDisk w3 { D with wr := D.wr + 1 } ∧ Fr (fun k => k = D.r) w w3 ∧ OwnB w3 gb cap l) := by
    have hob : OwnB w3 gb cap l := by
      have h1 : OwnB u2 gb cap l := (hOb.on (by rw [← hw2']; exact (Below.refl _ _).alloc (Nat.le_refl _) _)).on G2.out
      exact ownB_fr h1 p2 (ownB_ne h1 HU.out.1.box (by decide))
    exact ⟨p1, (below_fr HU.out.2.1 (fun k => k = D.r)).trans p2 (fun k e => .inl e), hob⟩
  clear p1 p2 hz3 x0 x1 x2
  obtain ⟨i1, j1, j2, j3, j4⟩ := info_parts info36
  have HRow : Hid (w3.ownsRow 0 79 3 (.slice aa D.L.length la) D.L.length (D.L.flatMap ActR.cells)) := by
    have h1 := H3.out.1.acts
    have h2 : w3.ownsRow 0 79 3 D.av D.L.length (D.L.flatMap ActR.cells) := h1
    rw [hav] at h2; exact h2
  have HAct : Hid (RAct w3 D.nb ⟨1, i, some ⟨gb, 0, none⟩, cap, l⟩ ∧ l.length = n) := ⟨.inl ⟨rfl, HN.out.2.1, HN.out.2.2, by show l.length = 512; rw [HD.out.2]; exact HN.out.1, gb, rfl, H3.out.2.2⟩, HD.out.2⟩
  have HA1 : Hid (∀ o, Below w3.heap.size w3 (w3.drew.alloc o)) := fun o => (Below.refl w3.heap.size w3).drew.alloc (Nat.le_refl _) o
  have HA2 : Hid (∀ o, Below w3.heap.size w3 (w3.alloc o).drew) := fun o => ((Below.refl w3.heap.size w3).alloc (Nat.le_refl _) o).drew
  have HA3 : Hid (∀ o, Below w3.heap.size w3 (w3.drew.alloc o).drew) := fun o => (HA1.out o).drew
  have HA4 : Hid (∀ o, Below w3.heap.size w3 (w3.alloc o)) := fun o => ((Below.refl w3.heap.size w3).alloc (Nat.le_refl _) o)
  have y3a : (w3.alloc (.cells #[.int .i64 1, .int .i64 i, .slice (some ⟨gb, 0, none⟩) n cap] 79)).cell? ⟨D.r, 1, none⟩ = some (.slice aa D.L.length la) := (fr_alloc (fun _ => False) w3 _).cell y3 (fun e => e)
  have HV : Hid (D.av = .slice aa D.L.length la) := hav
  clear hav hOb hw2'
  go_upto_region 8 with fail
  clear hw3 c5 f5
  go_region_law
    (first
      | (refine step_own (by rfl) (.tmp 36) (.tmp 38) 38 (by rfl) 79 i1 _ 3 40 Tryz.underlying38 j1 j2 j3 j4 (by rfl) (by decide) (.slice aa D.L.length la) D.L.length (D.L.flatMap ActR.cells) (by rfl) (owns_fr HRow.out (below_fr (by first | exact HA1.out _ | exact HA2.out _ | exact HA3.out _ | exact HA4.out _) (fun _ => False)) (fun _ _ e => e)) ⟨w3.heap.size, 0, none⟩ 1 1 [.int .i64 1, .int .i64 i, .slice (some ⟨gb, 0, none⟩) n cap] (by rfl) (by decide) rfl (newsA _ _ _ _ _ _ (heap_alloc_new w3 _)) (by intro u hu; simp at hu; rcases hu with rfl | rfl | rfl <;> rfl) (by unfold maxLen; omega) (by omega) ?_
         intro b bc w4 h1 h2 h3
         have H4 : Hid (w4.heap[D.r]? = some (.cells ({ D with wr := D.wr + 1 } : RDk).cells 41 (0, 0)) ∧ RDisk (w4.setCell ⟨D.r, 1, none⟩ (.slice (some ⟨b, 0, none⟩) (D.L.length + 1) bc)) { D with wr := D.wr + 1, av := .slice (some ⟨b, 0, none⟩) (D.L.length + 1) bc, L := D.L ++ [⟨1, i, some ⟨gb, 0, none⟩, cap, l⟩] } ∧ Fr (fun k => k = D.r ∨ D.av.ownBlock = some k) w (w4.setCell ⟨D.r, 1, none⟩ (.slice (some ⟨b, 0, none⟩) (D.L.length + 1) bc))) := (by
           rw [← HV.out] at h2
           rw [← HAct.out.2] at h1
           first
           | exact radd4 H3.out.1 HAct.out.1 (HA1.out _) h1 h2 hL H3.out.2.1
           | exact radd4 H3.out.1 HAct.out.1 (HA2.out _) h1 h2 hL H3.out.2.1
           | exact radd4 H3.out.1 HAct.out.1 (HA3.out _) h1 h2 hL H3.out.2.1
           | exact radd4 H3.out.1 HAct.out.1 (HA4.out _) h1 h2 hL H3.out.2.1)
         have HBB : Hid (D.av.ownBlock = some b ∨ w.heap.size ≤ b) := (by rw [HV.out]; exact h3.imp id (fun e => Nat.le_trans H3.out.2.1.size (by first | exact Nat.le_trans (HA1.out _).size e | exact Nat.le_trans (HA2.out _).size e | exact Nat.le_trans (HA3.out _).size e | exact Nat.le_trans (HA4.out _).size e)))
         have d1 : w4.cell? ⟨D.r, 1, none⟩ = some D.av := cell_of_row _ _ 1 _ _ _ H4.out.1
         have e1 : w4.frozen? ⟨D.r, 1, none⟩ = false := frozen_of_row _ _ 1 _ _ H4.out.1
         clear h1 h2 h3 y0 y1 y2 y3 y3a))
  all_goals
    obtain ⟨w5, hw5⟩ : ∃ w5, w4.setCell ⟨D.r, 1, none⟩ (.slice (some ⟨b, 0, none⟩) (D.L.length + 1) bc) = w5 := ⟨_, rfl⟩
    rw [hw5] at H4 ⊢
    obtain ⟨D5, hD5⟩ : ∃ D5 : RDk, ({ D with wr := D.wr + 1, av := .slice (some ⟨b, 0, none⟩) (D.L.length + 1) bc, L := D.L ++ [⟨1, i, some ⟨gb, 0, none⟩, cap, l⟩] } : RDk) = D5 := ⟨_, rfl⟩
    have HG : Hid (Calls Tryz.prog 68 #[.pointer (some ⟨D.r, 0, none⟩)] w5 fun e w' => e = .returned (.bool D.gone) ∧ RDisk w' D5.goes ∧ Fr (fun k => k = D.r) w5 w') := by
      have h1 := rgoes_any w5 _ H4.out.2.1 HO.out hlt
      rw [hD5] at h1
      have e1 : D5.r = D.r := by rw [← hD5]
      have e2 : D5.gone = D.gone := by rw [← hD5]; rfl
      rw [e1, e2] at h1
      exact h1
    have HF : Hid (Fr (fun k => k = D.r ∨ D.av.ownBlock = some k) w w5) := H4.out.2.2
    clear H4 d1 e1 hw5
    cases hgo : D.gone
    · rw [hgo] at HG
      go_wp2_with (go_at_call 68; refine HG.out.mono ?_; rintro e w6 ⟨rfl, h1, h2⟩; have H6 : Hid (RDisk w6 D5.goes ∧ Fr (fun k => k = D.r) w5 w6) := ⟨h1, h2⟩; clear h1 h2)
      all_goals
        go_ret
        have h6 := H6.out.1
        rw [← hD5] at h6
        exact ⟨rfl, b, bc, gb, cap, h6, HF.out.trans H6.out.2 (fun k e => .inl (.inl e)), HBB.out, HGB.out⟩
    · rw [hgo] at HG
      go_wp2_with (go_at_call 68; refine HG.out.mono ?_; rintro e w6 ⟨rfl, h1, h2⟩; have H6 : Hid (RDisk w6 D5.goes ∧ Fr (fun k => k = D.r) w5 w6) := ⟨h1, h2⟩; clear h1 h2)
      all_goals
        go_ret
        have h6 := H6.out.1
        rw [← hD5] at h6
        exact ⟨rfl, b, bc, gb, cap, h6, HF.out.trans H6.out.2 (fun k e => .inl (.inl e)), HBB.out, HGB.out⟩
end Go.Proofs.YtamlbpbhlgmcoaaGreatDoor

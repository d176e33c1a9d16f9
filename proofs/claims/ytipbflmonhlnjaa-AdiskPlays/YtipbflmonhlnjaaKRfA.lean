import Derived.Test.YtipbflmonhlnjaaKAfU
import Derived.Deep.RegionHeld3
namespace Go.Proofs.Ytipbflmonhlnjaa
open Go.RowKit Rec
/-- the document's disk, as it stands -/
structure RDk where
  r : Nat
  nb : Nat
  gf : Nat
  cf : Nat
  f : List Int
  av : Value
  L : List ActR
  kv : Value
  keep : List Bool
  left : Int
  out : Bool
  wr : Int
  fl : Int
def RDk.cells (D : RDk) : Array Value := #[.slice (some ⟨D.gf, 0, none⟩) (512 * D.nb) D.cf, D.av, D.kv, .int .i64 D.left, .bool D.out, .int .i64 D.wr, .int .i64 D.fl]
/-- an act that may be, its bytes in a row of their own -/
def RAct (w : World) (nb : Nat) (q : ActR) : Prop := (q.kind = 1 ∧ 0 ≤ q.b ∧ q.b < nb ∧ q.x.length = 512 ∧ ∃ g, q.a = some ⟨g, 0, none⟩ ∧ OwnB w g q.c q.x) ∨ (q.kind = 2 ∧ q.b = 0 ∧ q.a = none ∧ q.c = 0 ∧ q.x = [])
structure RDisk (w : World) (D : RDk) : Prop where
  box : w.heap[D.r]? = some (.cells D.cells 53 (0, 0))
  first : OwnB w D.gf D.cf D.f
  flen : D.f.length = 512 * D.nb
  nb0 : 1 ≤ D.nb ∧ D.nb ≤ 16384
  acts : w.ownsRow 0 86 3 D.av D.L.length (D.L.flatMap ActR.cells)
  each : ∀ q ∈ D.L, RAct w D.nb q
  keep : w.ownsRow 0 4 1 D.kv D.keep.length (D.keep.map Value.bool)
  llen : D.L.length ≤ 1000000000000
  lft : 0 ≤ D.left
theorem RAct.fr {S : Nat → Prop} {w w' : World} {nb : Nat} {q : ActR} (h : RAct w nb q) (x : Fr S w w') (hS : ∀ g c l, OwnB w g c l → ¬ S g) : RAct w' nb q := by
  rcases h with ⟨h1, h2, h3, h4, g, e, ho⟩ | h
  · exact .inl ⟨h1, h2, h3, h4, g, e, ownB_fr ho x (hS _ _ _ ho)⟩
  · exact .inr h
theorem RAct.on {w w' : World} {nb : Nat} {q : ActR} (h : RAct w nb q) (hb : Below w.heap.size w w') : RAct w' nb q := h.fr (below_fr hb (fun _ => False)) (fun _ _ _ _ e => e)
theorem RDisk.on {w w' : World} {D : RDk} (h : RDisk w D) (hb : Below w.heap.size w w') : RDisk w' D :=
  ⟨(hb.block _ (heap_lt h.box)).trans h.box, h.first.on hb, h.flen, h.nb0, owns_fr h.acts (below_fr hb (fun _ => False)) (fun _ _ e => e), fun q hq => (h.each q hq).on hb, owns_fr h.keep (below_fr hb (fun _ => False)) (fun _ _ e => e), h.llen, h.lft⟩
theorem RDisk.cell {w : World} {D : RDk} (h : RDisk w D) (i : Nat) : w.cell? ⟨D.r, i, none⟩ = D.cells[i]? := cell_of_row _ _ _ _ _ _ h.box
theorem RDisk.frozen {w : World} {D : RDk} (h : RDisk w D) (i : Nat) : w.frozen? ⟨D.r, i, none⟩ = false := frozen_of_row _ _ i _ _ h.box
theorem ownB_ne {w : World} {g c p : Nat} {l : List Int} {cs : Array Value} {t : Nat} {fz : Nat × Nat} (h : OwnB w g c l) (h' : w.heap[p]? = some (.cells cs t fz)) (hne : t ≠ 5) : g ≠ p := by
  intro e
  subst e
  obtain ⟨cur, h1, _⟩ := h.row
  rw [h'] at h1
  injection h1 with h1
  injection h1 with _ h2 _
  exact hne h2
/-- a write into its box -/
theorem RDisk.put {w : World} {D D' : RDk} (h : RDisk w D) (i : Nat) (v : Value) (he : D'.cells = D.cells.setIfInBounds i v) (hr : D'.r = D.r) (hn : D'.nb = D.nb) (hg : D'.gf = D.gf ∧ D'.cf = D.cf ∧ D'.f = D.f) (ha : D'.av = D.av ∧ D'.L = D.L) (hk : D'.kv = D.kv ∧ D'.keep = D.keep) (hl : 0 ≤ D'.left) : RDisk (w.setCell ⟨D.r, i, none⟩ v) D' ∧ Fr (fun k => k = D.r) w (w.setCell ⟨D.r, i, none⟩ v) := by
  have x : Fr (fun k => k = D.r) w (w.setCell ⟨D.r, i, none⟩ v) := Fr.set
  have hB : ∀ g c l, OwnB w g c l → ¬ g = D.r := fun g c l ho => ownB_ne ho h.box (by decide)
  refine ⟨⟨?_, ?_, by rw [hg.2.2, hn]; exact h.flen, by rw [hn]; exact h.nb0, ?_, ?_, ?_, by rw [ha.2]; exact h.llen, hl⟩, x⟩
  · rw [hr, he]; exact heap_setCell_same _ _ _ _ _ _ h.box
  · rw [hg.1, hg.2.1, hg.2.2]; exact ownB_fr h.first x (hB _ _ _ h.first)
  · rw [ha.1, ha.2]; exact owns_fr h.acts x (fun k hk e => own_apartX h.acts h.box (by decide) (by rw [hk, e]))
  · rw [ha.2, hn]; exact fun q hq => (h.each q hq).fr x hB
  · rw [hk.1, hk.2]; exact owns_fr h.keep x (fun k hk e => own_apartX h.keep h.box (by decide) (by rw [hk, e]))
/-- a step: does the power go? -/
def RDk.goes (D : RDk) : RDk := if D.left = 0 then D else { D with left := D.left - 1, out := decide (D.left - 1 = 0) }
def RDk.gone (D : RDk) : Bool := decide (D.left = 1)
set_option maxRecDepth 100000 in
set_option maxHeartbeats 1600000 in
theorem rgoes_any (w : World) (D : RDk) (h : RDisk w D) (ho : D.out = false) (hl : D.left ≤ 9223372036854775807) : Calls Try.prog 54 #[.pointer (some ⟨D.r, 0, none⟩)] w fun e w' => e = .returned (.bool D.gone) ∧ RDisk w' D.goes ∧ Fr (fun k => k = D.r) w w' := by
  have c3 := h.cell 3
  have c4 := h.cell 4
  have f3 := h.frozen 3
  have f4 := h.frozen 4
  have h0 := h.lft
  have HD : Hid (RDisk w D) := h
  clear h
  obtain ⟨r, nb, gf, cf, f, av, L, kv, keep, left, out, wr, fl⟩ := D
  dsimp only at ho hl h0 c3 c4 f3 f4
  subst ho
  replace c3 : w.cell? ⟨r, 3, none⟩ = some (.int .i64 left) := c3
  replace c4 : w.cell? ⟨r, 4, none⟩ = some (.bool false) := c4
  by_cases hz : left = 0
  · subst hz
    go_enter Try.func54, Try.ntmps54
    go_wp2
    go_ret
    exact ⟨rfl, HD.out, Fr.refl _ _⟩
  · have h1 : -9223372036854775808 ≤ left - 1 ∧ left - 1 ≤ 9223372036854775807 := by omega
    obtain ⟨g1, g2⟩ := HD.out.put (D' := ⟨r, nb, gf, cf, f, av, L, kv, keep, left - 1, false, wr, fl⟩) 3 (.int .i64 (left - 1)) rfl rfl rfl ⟨rfl, rfl, rfl⟩ ⟨rfl, rfl⟩ ⟨rfl, rfl⟩ (by show 0 ≤ left - 1; omega)
    obtain ⟨w1, hw1⟩ : ∃ w1, w.setCell ⟨r, 3, none⟩ (.int .i64 (left - 1)) = w1 := ⟨_, rfl⟩
    have g1' : RDisk w1 ⟨r, nb, gf, cf, f, av, L, kv, keep, left - 1, false, wr, fl⟩ := by rw [← hw1]; exact g1
    have g2' : Fr (fun k => k = r) w w1 := by rw [← hw1]; exact g2
    have d3 : w1.cell? ⟨r, 3, none⟩ = some (.int .i64 (left - 1)) := g1'.cell 3
    have d4 : w1.cell? ⟨r, 4, none⟩ = some (.bool false) := g1'.cell 4
    have e4 := g1'.frozen 4
    have HQ : Hid (RDisk w1 ⟨r, nb, gf, cf, f, av, L, kv, keep, left - 1, false, wr, fl⟩ ∧ Fr (fun k => k = r) w w1) := ⟨g1', g2'⟩
    clear g1 g2 g1' g2'
    obtain ⟨k1, k2⟩ := HQ.out.1.put (D' := ⟨r, nb, gf, cf, f, av, L, kv, keep, left - 1, decide (left - 1 = 0), wr, fl⟩) 4 (.bool (decide (left - 1 = 0))) rfl rfl rfl ⟨rfl, rfl, rfl⟩ ⟨rfl, rfl⟩ ⟨rfl, rfl⟩ (by show 0 ≤ left - 1; omega)
    obtain ⟨w2, hw2⟩ : ∃ w2, w1.setCell ⟨r, 4, none⟩ (.bool (decide (left - 1 = 0))) = w2 := ⟨_, rfl⟩
    rw [hw2] at k1 k2
    have d5 : w2.cell? ⟨r, 4, none⟩ = some (.bool (decide (left - 1 = 0))) := k1.cell 4
    have HR : Hid (RDisk w2 ⟨r, nb, gf, cf, f, av, L, kv, keep, left - 1, decide (left - 1 = 0), wr, fl⟩ ∧ Fr (fun k => k = r) w w2) := ⟨k1, HQ.out.2.trans k2 (fun _ e => .inl e)⟩
    clear k1 k2
    have hg : RDk.gone ⟨r, nb, gf, cf, f, av, L, kv, keep, left, false, wr, fl⟩ = decide (left - 1 = 0) := by
      unfold RDk.gone
      exact decide_eq_decide.2 (by show left = 1 ↔ left - 1 = 0; omega)
    have hgo : RDk.goes ⟨r, nb, gf, cf, f, av, L, kv, keep, left, false, wr, fl⟩ = ⟨r, nb, gf, cf, f, av, L, kv, keep, left - 1, decide (left - 1 = 0), wr, fl⟩ := by
      unfold RDk.goes
      rw [if_neg (show ¬ left = 0 from hz)]
    rw [hg, hgo]
    obtain ⟨bz, hbz⟩ : ∃ bz, decide (left - 1 = 0) = bz := ⟨_, rfl⟩
    rw [hbz] at hw2 d5 HR ⊢
    have hbq : (left - 1 == 0) = bz := hbz
    go_enter Try.func54, Try.ntmps54
    go_wp2
    go_ret
    exact ⟨rfl, HR.out⟩
end Go.Proofs.Ytipbflmonhlnjaa

namespace Go.Proofs.Ytipbflmonhlnjaa
open Go.RowKit Rec
set_option maxRecDepth 100000 in
theorem app_zeroB (w : World) (a : Option Addr) (c : Nat) : (Builtin.append_ #[22, 22] 22 #[.slice none 0 0, .slice a 0 c]).run Try.prog w = .ok (.slice none 0 0) w := by
  obtain ⟨i0, hi, hz0, hz1, hz2⟩ := info_parts info5
  cases a <;> simp [Builtin.append_, run_underlying Try.underlying22, sizeOf, typeInfo, hi, Builtin.lenOf, Builtin.firstCells, loadCells, loadCellsFrom]
theorem wp_zeroB {ops : Array Oper} {rest : List Oper} {o : Oper} {a : Act} {Q : Exit → Act → World → Prop} {w : World} (hgd : o.guard = none) (s x : Operand)
    (ho : o.op = .call { callee := .builtin .append, args := #[s, x], argTypes := #[22, 22] }) (hty : o.type = 22) (hs : a.eval s = .slice none 0 0) (ad : Option Addr) (c : Nat) (hx : a.eval x = .slice ad 0 c)
    (h : wpList Try.prog ops Q rest (a.put o.dst (.slice none 0 0)) w) : wpList Try.prog ops Q (o :: rest) a w := by
  refine wpList_plain hgd fun K hK => ?_
  unfold Oper.wp execOp
  simp only [ho, hty, resolve, invoke, builtin, Sem.run_bind, Sem.run_pure, Result.andThen_ok, List.map_toArray, List.map_cons, List.map_nil, hs, hx, app_zeroB w ad c]
  exact hK _ _ h
set_option maxRecDepth 100000 in
theorem copied_nil (w : World) (a : Option Addr) (c : Nat) : Calls Try.prog 48 #[.slice a 0 c] w fun e w' => e = .returned (.slice none 0 0) ∧ w = w' := by
  go_enter Try.func48, Try.ntmps48
  go_wp2_with (at_builtin; refine wp_zeroB rfl (.tmp 4) (.tmp 5) rfl rfl rfl a c rfl ?_)
  go_ret
  exact ⟨rfl, rfl⟩
/-- copied bytes: in a row of their own, or none -/
theorem copiedU (w : World) (a : Option Addr) (n c : Nat) (l : List Int) (hb : Bytes w a l) (hl : l.length = n) (h47 : n ≤ 140737488351232) : Calls Try.prog 48 #[.slice a n c] w fun e w' => ∃ v cap, e = .returned (.slice v n cap) ∧ RwA w.heap.size w' v cap l ∧ Below w.heap.size w w' := by
  by_cases h0 : n = 0
  · subst h0
    refine (copied_nil w a c).mono ?_
    rintro e w' ⟨rfl, rfl⟩
    exact ⟨none, 0, rfl, .inl ⟨List.eq_nil_of_length_eq_zero hl, rfl, rfl⟩, Below.refl _ _⟩
  · obtain ⟨p, rfl⟩ : ∃ p, a = some p := by
      rcases hb.at_ with e | ⟨b, o, e, _⟩
      · subst e; simp at hl; omega
      · exact ⟨_, e⟩
    refine (copied_any w p n c l hb hl (by omega) h47).mono ?_
    rintro e w' ⟨g, cap, rfl, h1, h2, h3⟩
    exact ⟨_, cap, rfl, .inr ⟨g, rfl, h2, h1⟩, h3⟩
set_option maxRecDepth 100000 in
theorem rblocks_q (w : World) (D : RDk) (h : RDisk w D) (q : Nat) : Calls Try.prog 31 #[.pointer (some ⟨D.r, 0, none⟩)] (w.drewN q) fun e w' => e = .returned (.int .i64 (D.nb : Int)) ∧ ∃ m, w' = (w.drewN q).drewN m := by
  have c0 : (w.drewN q).cell? ⟨D.r, 0, none⟩ = some (.slice (some ⟨D.gf, 0, none⟩) (512 * D.nb) D.cf) := h.cell 0
  have hw : wrap64 (D.nb : Int) = D.nb := by have := h.nb0; unfold wrap64; omega
  clear h
  go_enter Try.func31, Try.ntmps31
  go_wp2
  go_ret
  exact ⟨by show Ending.returned (Value.int .i64 (wrap64 (D.nb : Int))) = _; rw [hw], 0, rfl⟩
/-- one act more -/
theorem RDisk.add {w w1 : World} {D : RDk} {q : ActR} {b cap : Nat} (h : RDisk w D) (hq : RAct w D.nb q) (h1 : w1.ownsRow 0 86 3 (.slice (some ⟨b, 0, none⟩) (D.L.length + 1) cap) (D.L.length + 1) (D.L.flatMap ActR.cells ++ q.cells)) (h2 : Fr (fun k => D.av.ownBlock = some k) w w1) (hl : D.L.length + 1 ≤ 1000000000000) :
    w1.heap[D.r]? = some (.cells D.cells 53 (0, 0)) ∧ RDisk (w1.setCell ⟨D.r, 1, none⟩ (.slice (some ⟨b, 0, none⟩) (D.L.length + 1) cap)) { D with av := .slice (some ⟨b, 0, none⟩) (D.L.length + 1) cap, L := D.L ++ [q] } ∧ Fr (fun k => k = D.r ∨ D.av.ownBlock = some k) w (w1.setCell ⟨D.r, 1, none⟩ (.slice (some ⟨b, 0, none⟩) (D.L.length + 1) cap)) := by
  have hbox : w1.heap[D.r]? = some (.cells D.cells 53 (0, 0)) := h2.heap h.box (fun e => own_apartX h.acts h.box (by decide) e)
  have hB : ∀ g c l, OwnB w g c l → OwnB w1 g c l := fun g c l ho => ownB_fr ho h2 (fun e => own_apart7 h.acts ho (by decide) e)
  have x : Fr (fun k => k = D.r) w1 (w1.setCell ⟨D.r, 1, none⟩ (.slice (some ⟨b, 0, none⟩) (D.L.length + 1) cap)) := Fr.set
  have hB2 : ∀ g c l, OwnB w1 g c l → OwnB (w1.setCell ⟨D.r, 1, none⟩ (.slice (some ⟨b, 0, none⟩) (D.L.length + 1) cap)) g c l := fun g c l ho => ownB_fr ho x (ownB_ne ho hbox (by decide))
  have hA : ∀ p, RAct w D.nb p → RAct (w1.setCell ⟨D.r, 1, none⟩ (.slice (some ⟨b, 0, none⟩) (D.L.length + 1) cap)) D.nb p := fun p hp => by
    rcases hp with ⟨a1, a2, a3, a4, g, e, ho⟩ | hp
    · exact .inl ⟨a1, a2, a3, a4, g, e, hB2 _ _ _ (hB _ _ _ ho)⟩
    · exact .inr hp
  refine ⟨hbox, ⟨?_, hB2 _ _ _ (hB _ _ _ h.first), h.flen, h.nb0, ?_, ?_, ?_, ?_, h.lft⟩, (h2.mono (fun k hk => .inr hk)).trans x (fun k hk => .inl (.inl hk))⟩
  · exact heap_setCell_same _ _ _ _ _ _ hbox
  · have e : (D.L ++ [q]).flatMap ActR.cells = D.L.flatMap ActR.cells ++ q.cells := by simp
    show (w1.setCell _ _).ownsRow 0 _ 3 _ (D.L ++ [q]).length ((D.L ++ [q]).flatMap ActR.cells)
    rw [e, List.length_append]
    exact owns_fr h1 x (fun k hk e => own_apartX h1 hbox (by decide) (by rw [hk, e]))
  · intro p hp
    rcases List.mem_append.1 hp with hp | hp
    · exact hA p (h.each p hp)
    · rw [List.mem_singleton.1 hp]; exact hA q hq
  · have hk1 : w1.ownsRow 0 4 1 D.kv D.keep.length (D.keep.map Value.bool) := owns_fr h.keep h2 (fun k hk e => own_apartO h.keep h.acts (by decide) k hk e)
    exact owns_fr hk1 x (fun k hk e => own_apartX hk1 hbox (by decide) (by rw [hk, e]))
  · show (D.L ++ [q]).length ≤ _
    rw [List.length_append]; exact hl
end Go.Proofs.Ytipbflmonhlnjaa

namespace Go.Proofs.Ytipbflmonhlnjaa
open Go.RowKit Rec
theorem rblocks_any (w : World) (D : RDk) (h : RDisk w D) : Calls Try.prog 31 #[.pointer (some ⟨D.r, 0, none⟩)] w fun e w' => e = .returned (.int .i64 (D.nb : Int)) ∧ Below w.heap.size w w' := by
  refine (rblocks_q w D h 0).mono ?_
  rintro e w' ⟨h1, m, rfl⟩
  exact ⟨h1, ⟨rfl, rfl, rfl, Nat.le_refl _, fun _ _ => rfl⟩⟩
set_option maxRecDepth 100000 in
set_option maxHeartbeats 1600000 in
theorem rwrite_out (w : World) (D : RDk) (h : RDisk w D) (ho : D.out = true) (i : Int) (a : Option Addr) (n c : Nat) : Calls Try.prog 20 #[.pointer (some ⟨D.r, 0, none⟩), .int .i64 i, .slice a n c] w fun e w' => e = .returned (.int .i64 30) ∧ w = w' := by
  have c4 : w.cell? ⟨D.r, 4, none⟩ = some (.bool true) := by rw [h.cell 4, ← ho]; rfl
  clear h
  go_enter Try.func20, Try.ntmps20
  go_wp2
  go_ret
  exact ⟨rfl, rfl⟩
/-- what a refused or taken write answers -/
def wq (i : Int) (l : List Int) : ActR := ⟨1, i, none, 0, l⟩
set_option maxRecDepth 100000 in
set_option maxHeartbeats 4000000 in
theorem rwrite_head (w : World) (D : RDk) (h : RDisk w D) (ho : D.out = false) (i : Int) (a : Option Addr) (n c : Nat) (l : List Int) (hb : Bytes w a l) (hl : l.length = n) (h47 : n ≤ 140737488351232) (he : actE D.nb (wq i l) ≠ 0) :
    Calls Try.prog 20 #[.pointer (some ⟨D.r, 0, none⟩), .int .i64 i, .slice a n c] w fun e w' => e = .returned (.int .i64 (actE D.nb (wq i l))) ∧ Below w.heap.size w w' := by
  have c4 : w.cell? ⟨D.r, 4, none⟩ = some (.bool false) := by rw [h.cell 4, ← ho]; rfl
  have CC : Hid (Calls Try.prog 48 #[.slice a n c] w fun e w' => ∃ v cap, e = .returned (.slice v n cap) ∧ RwA w.heap.size w' v cap l ∧ Below w.heap.size w w') := copiedU w a n c l hb hl h47
  have HD : Hid (RDisk w D ∧ l.length = n) := ⟨h, hl⟩
  have hlen := hb.len
  clear h hb hl
  obtain ⟨E, hE⟩ : ∃ E, actE D.nb (wq i l) = E := ⟨_, rfl⟩
  rw [hE] at he ⊢
  go_enter Try.func20, Try.ntmps20
  go_upto_region 4 with (go_at_call 48; refine CC.out.mono ?_; rintro e w1 ⟨v, cap, rfl, h1, h2⟩; have H1 : Hid (RwA w.heap.size w1 v cap l ∧ Below w.heap.size w w1) := ⟨h1, h2⟩; clear h1 h2)
  obtain ⟨P, hP⟩ : ∃ P, w1.heap.size = P := ⟨_, rfl⟩
  obtain ⟨w2, hw2⟩ : ∃ w2, w1.alloc (.cells #[.int .i64 1, .int .i64 i, .slice v n cap] 86) = w2 := ⟨_, rfl⟩
  have H2 : Hid (Below w.heap.size w w2 ∧ w2.heap[P]? = some (.cells #[.int .i64 1, .int .i64 i, .slice v n cap] 86 (0, 0))) := by
    rw [← hw2, ← hP]; exact ⟨H1.out.2.alloc H1.out.2.size _, heap_alloc_new _ _⟩
  rw [hw2, hP]
  clear hw2 hP
  have CB : Hid (∀ wx, Below w2.heap.size w2 wx → Calls Try.prog 31 #[.pointer (some ⟨D.r, 0, none⟩)] wx fun e w' => e = .returned (.int .i64 (D.nb : Int)) ∧ Below wx.heap.size wx w') := fun wx hb => rblocks_any wx D ((HD.out.1.on H2.out.1).on hb)
  have CF : Hid (∀ wx, Calls Try.prog 53 #[.int .i64 (D.nb : Int), .agg #[.int .i64 1, .int .i64 i, .slice v n cap]] wx fun e w' => e = .returned (.int .i64 (actE D.nb (wq i l))) ∧ Below wx.heap.size wx w') := fun wx => by
    have hf := rfault_any wx D.nb ⟨1, i, v, cap, l⟩ HD.out.1.nb0.2 hlen
    rw [HD.out.2] at hf
    exact hf
  have HC : Hid (∀ wx, Below w2.heap.size w2 wx → wx.cell? ⟨P, 0, none⟩ = some (.int .i64 1) ∧ wx.cell? ⟨P, 1, none⟩ = some (.int .i64 i) ∧ wx.cell? ⟨P, 2, none⟩ = some (.slice v n cap)) := fun wx hb => by
    have hz := (hb.block P (heap_lt H2.out.2)).trans H2.out.2
    exact ⟨cell_of_row _ _ 0 _ _ _ hz, cell_of_row _ _ 1 _ _ _ hz, cell_of_row _ _ 2 _ _ _ hz⟩
  have x0 := HC.out w2 (Below.refl _ _)
  rw [hE] at CF
  clear hE CC
  have HB : Hid (Below w2.heap.size w2 w2.drew) := (Below.refl _ _).drew
  go_region_held3 (fun w' => w'.cell? ⟨P, 0, none⟩ = some (.int .i64 1) ∧ w'.cell? ⟨P, 1, none⟩ = some (.int .i64 i) ∧ w'.cell? ⟨P, 2, none⟩ = some (.slice v n cap)) (first | assumption | exact x0 | go_keep)
    (first
      | (go_at_call 31; refine (CB.out _ (by first | exact HB.out | exact Below.refl _ _)).mono ?_; rintro e u1 ⟨rfl, hb1⟩
         have G1 : Hid (Below w2.heap.size w2 u1) := (by first | exact HB.out.trans (hb1.mono HB.out.size) | exact hb1)
         have x1 := HC.out u1 G1.out
         clear hb1)
      | (go_at_call 53; refine (CF.out _).mono ?_; rintro e u2 ⟨rfl, hb2⟩
         have G2 : Hid (Below w2.heap.size w2 u2) := (by first | exact G1.out.trans (hb2.mono G1.out.size) | exact (G1.out.drew).trans (hb2.mono G1.out.size))
         have x2 := HC.out u2 G2.out
         clear hb2))
  all_goals
    go_wp2
    go_ret
    exact ⟨rfl, H2.out.1.trans (G2.out.mono H2.out.1.size)⟩
end Go.Proofs.Ytipbflmonhlnjaa

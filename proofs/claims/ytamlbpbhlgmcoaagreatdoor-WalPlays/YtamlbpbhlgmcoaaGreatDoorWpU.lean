import Derived.Test.YtamlbpbhlgmcoaaGreatDoorWpP
namespace Go.Proofs.YtamlbpbhlgmcoaaGreatDoor
open Go.RowKit Rec
/-- what Behind answers, in one word -/
def bhX (a : AD) : List Int := if opE a = 0 then behind a.full a.nb else []
structure Tl (w : World) (lo : Nat) (pa : Option Addr) (c : Nat) (x : List Int) : Prop where
  own : w.ownsRow 0 5 1 (.slice pa x.length c) x.length (x.map (Value.int .u8))
  far : ∀ k, (Value.slice pa x.length c).ownBlock = some k → lo ≤ k
  wf : ∀ i, 0 ≤ nth x i ∧ nth x i < 256
theorem Tl.on {w w' : World} {lo c : Nat} {pa : Option Addr} {x : List Int} (h : Tl w lo pa c x) (hb : Below w.heap.size w w') : Tl w' lo pa c x := ⟨owns_on h.own hb, h.far, h.wf⟩
theorem Tl.pt {w : World} {lo c : Nat} {pa : Option Addr} {x : List Int} (h : Tl w lo pa c x) (hx : x.length ≤ 1000000000000000) : (x = [] ∧ pa = none ∧ c = 0) ∨ ∃ g, pa = some ⟨g, 0, none⟩ ∧ OwnB w g c x ∧ lo ≤ g := by
  rcases h.own.2 with ⟨e, h0⟩ | ⟨g, cap, cur, e, _⟩
  · injection e with e1 e2 e3
    exact .inl ⟨List.eq_nil_of_length_eq_zero h0, e1, e3⟩
  · injection e with e1 e2 e3
    subst e1 e3
    exact .inr ⟨g, rfl, ownB_of h.own rfl hx h.wf, h.far g rfl⟩
theorem Tl.bytes {w : World} {lo c : Nat} {pa : Option Addr} {x : List Int} (h : Tl w lo pa c x) (hx : x.length ≤ 1000000000000000) : Bytes w pa x := by
  rcases h.pt hx with ⟨rfl, rfl, _⟩ | ⟨g, rfl, ho, _⟩
  · exact nil_bytes w
  · exact ho.bytes
def BhQ (w : World) (n : Nat) (x : List Int) (E : Int) (e : Ending) (w' : World) : Prop := ∃ pa c, e = .returned (.tuple #[.slice pa n c, .int .i64 E]) ∧ Tl w' w.heap.size pa c x ∧ Below w.heap.size w w'
theorem BhP.q {w w' : World} {a : AD} {e : Ending} (_hn : a.nb ≤ 16384) (hl : a.down = false → a.full.length = 512 * a.nb) (h : BhP w a e w') : BhQ w (bhX a).length (bhX a) (opE a) e w' := by
  unfold bhX
  rcases h with ⟨h1, rfl, hb⟩ | ⟨h1, g, cap, rfl, ho, hg, hb⟩
  · rw [if_neg h1]
    exact ⟨none, 0, rfl, ⟨⟨rfl, .inl ⟨rfl, rfl⟩⟩, fun k e => (by cases e), fun i => (by simp [nth])⟩, hb⟩
  · rw [if_pos h1]
    have hd : a.down = false := by
      cases e : a.down with
      | false => rfl
      | true => unfold opE at h1; rw [e] at h1; simp at h1
    have hlen : (behind a.full a.nb).length = 512 * a.nb := by rw [behind_length]; exact hl hd
    rw [h1]
    exact ⟨_, cap, by rw [hlen], ⟨owns_of ho (Nat.zero_le _), fun k e => (by cases e; exact hg), ho.wf⟩, hb⟩
theorem bhX_len {a : AD} (hn : a.nb ≤ 16384) (hl : a.down = false → a.full.length = 512 * a.nb) : (bhX a).length ≤ 8388608 := by
  unfold bhX
  split
  · rename_i h1
    have hd : a.down = false := by
      cases e : a.down with
      | false => rfl
      | true => unfold opE at h1; rw [e] at h1; simp at h1
    rw [behind_length, hl hd]; omega
  · simp
theorem infoSt : (Tryz.prog.info? 9).map (fun i => (i.zero, i.size, i.bytes)) = some (some (.string ByteArray.empty), 1, 16) := by kernel_rfl
/-- as Pl, the two lists each for itself -/
structure PlG (w0 w : World) (P : Nat) (D : Dk) (R : RDk) (j : Nat) (tv wv : Value) (B1 B2 : List TB) : Prop where
  s : WS w0 w D R j
  box : w.heap[P]? = some (.cells #[.pointer (some ⟨D.d, 0, none⟩), .pointer (some ⟨R.r, 0, none⟩), tv, wv] 36 (0, 0))
  pn : Ap w0 D R P
  told : w.ownsRow 0 37 1 tv B1.length (B1.map TB.v)
  was : w.ownsRow 0 9 1 wv B2.length (B2.map TB.s)
  tn : ∀ k, tv.ownBlock = some k → Ap w0 D R k
  wn : ∀ k, wv.ownBlock = some k → Ap w0 D R k
  each : ∀ q ∈ B1, (q.x = [] ∧ q.a = none ∧ q.c = 0) ∨ ∃ g, q.a = some ⟨g, 0, none⟩ ∧ OwnB w g q.c q.x ∧ Ap w0 D R g
theorem Pl.g {w0 w : World} {P : Nat} {D : Dk} {R : RDk} {j : Nat} {tv wv : Value} {B : List TB} (h : Pl w0 w P D R j tv wv B) : PlG w0 w P D R j tv wv B B := ⟨h.s, h.box, h.pn, h.told, h.was, h.tn, h.wn, h.each⟩
theorem box_ne {w : World} {P g c : Nat} {x : List Int} {cs : Array Value} (h : w.heap[P]? = some (.cells cs 36 (0, 0))) (ho : OwnB w g c x) : g ≠ P := fun e => by
  obtain ⟨cur, hg, _⟩ := ho.row
  rw [e, h] at hg
  injection hg with hg
  injection hg with _ hg
  exact absurd hg (by decide)
theorem PlG.told1 {w0 w5 wa w6 : World} {P : Nat} {D : Dk} {R : RDk} {j : Nat} {tv wv : Value} {B1 B2 : List TB} {g6 cap6 n : Nat} {q : TB} (h : PlG w0 w5 P D R j tv wv B1 B2) (hn : B1.length = n) (ha : Below w5.heap.size w5 wa) (hq : (q.x = [] ∧ q.a = none ∧ q.c = 0) ∨ ∃ g, q.a = some ⟨g, 0, none⟩ ∧ OwnB w5 g q.c q.x ∧ Ap w0 D R g) (h1 : w6.ownsRow 0 37 1 (.slice (some ⟨g6, 0, none⟩) (n + 1) cap6) (n + 1) (B1.map TB.v ++ [q.v])) (h2 : Fr (fun k => tv.ownBlock = some k) wa w6) (h3 : tv.ownBlock = some g6 ∨ wa.heap.size ≤ g6) :
    (w6.cell? ⟨P, 2, none⟩ = some tv ∧ w6.frozen? ⟨P, 2, none⟩ = false) ∧ PlG w0 (w6.setCell ⟨P, 2, none⟩ (.slice (some ⟨g6, 0, none⟩) (n + 1) cap6)) P D R j (.slice (some ⟨g6, 0, none⟩) (n + 1) cap6) wv (B1 ++ [q]) B2 := by
  subst hn
  have hba : wa.heap[P]? = _ := (below_fr ha (fun _ => False)).heap h.box (fun e => e)
  have hta := owns_on h.told ha
  have hwa := owns_on h.was ha
  have hb6 := h2.heap hba (own_apartR hta hba (by decide))
  have hP : P < wa.heap.size := heap_lt hba
  have hg6 : g6 ≠ P := fun e => by
    rcases h3 with h3 | h3
    · exact own_apartR hta hba (by decide) (by rw [h3, e])
    · omega
  have hE : ∀ g c x, OwnB w5 g c x → OwnB (w6.setCell ⟨P, 2, none⟩ (.slice (some ⟨g6, 0, none⟩) (B1.length + 1) cap6)) g c x := fun g c x ho => by
    have ho6 := (ho.on ha).fr h2 (own_apart7 hta (ho.on ha) (by decide))
    exact ho6.fr Fr.set (box_ne hb6 ho6)
  refine ⟨⟨cell_of_row _ _ 2 _ _ _ hb6, frozen_of_row _ _ _ _ _ hb6⟩, ⟨?_, ?_, h.pn, ?_, ?_, fun k e => ?_, h.wn, fun p hp => ?_⟩⟩
  · refine ((h.s.on ha).fr h2 (fun k e e2 => e.elim (h.tn k e2).2.1 (h.tn k e2).2.2) (fun k e => (h.tn k e).1)).fr Fr.set (fun k e e2 => ?_) (fun k e => by rw [show k = P from e]; exact h.pn.1)
    rw [show k = P from e2] at e
    exact e.elim h.pn.2.1 h.pn.2.2
  · have := heap_setCell_same w6 P 2 _ _ (.slice (some ⟨g6, 0, none⟩) (B1.length + 1) cap6) hb6
    exact this
  · rw [List.length_append, List.map_append]
    exact owns_fr h1 Fr.set (fun k e e2 => by cases e; exact hg6 e2)
  · refine owns_fr (owns_fr hwa h2 (fun k hk => own_apart hwa hta (by decide) k hk)) Fr.set (fun k e e2 => ?_)
    exact own_apartR hwa hba (by decide) (by rw [e, show k = P from e2])
  · cases e
    rcases h3 with h3 | h3
    · exact h.tn _ h3
    · exact ⟨Nat.le_trans h.s.be.size (Nat.le_trans ha.size h3), fun e => by have h4 : g6 < w5.heap.size := h.s.lt (.inl e); have := ha.size; omega, fun e => by have h4 : g6 < w5.heap.size := h.s.lt (.inr e); have := ha.size; omega⟩
  · rcases List.mem_append.1 hp with hp | hp
    · rcases h.each p hp with e | ⟨g, e, ho, hg⟩
      · exact .inl e
      · exact .inr ⟨g, e, hE _ _ _ ho, hg⟩
    · rw [List.mem_singleton] at hp; subst hp
      rcases hq with e | ⟨g, e, ho, hg⟩
      · exact .inl e
      · exact .inr ⟨g, e, hE _ _ _ ho, hg⟩
theorem PlG.was1 {w0 w5 wa w6 : World} {P : Nat} {D : Dk} {R : RDk} {j : Nat} {tv wv : Value} {B1 B2 : List TB} {g6 cap6 n : Nat} {q : TB} (h : PlG w0 w5 P D R j tv wv B1 B2) (hn : B2.length = n) (ha : Below w5.heap.size w5 wa) (h1 : w6.ownsRow 0 9 1 (.slice (some ⟨g6, 0, none⟩) (n + 1) cap6) (n + 1) (B2.map TB.s ++ [q.s])) (h2 : Fr (fun k => wv.ownBlock = some k) wa w6) (h3 : wv.ownBlock = some g6 ∨ wa.heap.size ≤ g6) :
    (w6.cell? ⟨P, 3, none⟩ = some wv ∧ w6.frozen? ⟨P, 3, none⟩ = false) ∧ PlG w0 (w6.setCell ⟨P, 3, none⟩ (.slice (some ⟨g6, 0, none⟩) (n + 1) cap6)) P D R j tv (.slice (some ⟨g6, 0, none⟩) (n + 1) cap6) B1 (B2 ++ [q]) := by
  subst hn
  have hba : wa.heap[P]? = _ := (below_fr ha (fun _ => False)).heap h.box (fun e => e)
  have hta := owns_on h.told ha
  have hwa := owns_on h.was ha
  have hb6 := h2.heap hba (own_apartR hwa hba (by decide))
  have hP : P < wa.heap.size := heap_lt hba
  have hg6 : g6 ≠ P := fun e => by
    rcases h3 with h3 | h3
    · exact own_apartR hwa hba (by decide) (by rw [h3, e])
    · omega
  have hE : ∀ g c x, OwnB w5 g c x → OwnB (w6.setCell ⟨P, 3, none⟩ (.slice (some ⟨g6, 0, none⟩) (B2.length + 1) cap6)) g c x := fun g c x ho => by
    have ho6 := (ho.on ha).fr h2 (own_apart7 hwa (ho.on ha) (by decide))
    exact ho6.fr Fr.set (box_ne hb6 ho6)
  refine ⟨⟨cell_of_row _ _ 3 _ _ _ hb6, frozen_of_row _ _ _ _ _ hb6⟩, ⟨?_, ?_, h.pn, ?_, ?_, h.tn, fun k e => ?_, fun p hp => ?_⟩⟩
  · refine ((h.s.on ha).fr h2 (fun k e e2 => e.elim (h.wn k e2).2.1 (h.wn k e2).2.2) (fun k e => (h.wn k e).1)).fr Fr.set (fun k e e2 => ?_) (fun k e => by rw [show k = P from e]; exact h.pn.1)
    rw [show k = P from e2] at e
    exact e.elim h.pn.2.1 h.pn.2.2
  · have := heap_setCell_same w6 P 3 _ _ (.slice (some ⟨g6, 0, none⟩) (B2.length + 1) cap6) hb6
    exact this
  · refine owns_fr (owns_fr hta h2 (fun k hk => own_apart hta hwa (by decide) k hk)) Fr.set (fun k e e2 => ?_)
    exact own_apartR hta hba (by decide) (by rw [e, show k = P from e2])
  · rw [List.length_append, List.map_append]
    exact owns_fr h1 Fr.set (fun k e e2 => by cases e; exact hg6 e2)
  · cases e
    rcases h3 with h3 | h3
    · exact h.wn _ h3
    · exact ⟨Nat.le_trans h.s.be.size (Nat.le_trans ha.size h3), fun e => by have h4 : g6 < w5.heap.size := h.s.lt (.inl e); have := ha.size; omega, fun e => by have h4 : g6 < w5.heap.size := h.s.lt (.inr e); have := ha.size; omega⟩
  · rcases h.each p hp with e | ⟨g, e, ho, hg⟩
    · exact .inl e
    · exact .inr ⟨g, e, hE _ _ _ ho, hg⟩
/-- one more told -/
theorem news1b {w : World} {b : Nat} {t : TypeId} (h : w.heap[b]? = some (.cells #[.int .u8 99] t (0, 0))) : Bytes w (some ⟨b, 0, none⟩) [99] := by
  refine ⟨by simp, wf_list (by decide), .inr ⟨b, 0, rfl, fun i hi => ?_⟩⟩
  have h3 : i < 1 := hi
  obtain rfl : i = 0 := by omega
  rw [Nat.zero_add, cell_of_row _ _ _ _ _ _ h]; rfl
set_option maxRecDepth 100000 in
set_option maxHeartbeats 8000000 in
theorem wbehind_any (w0 w : World) (P : Nat) (D : Dk) (R : RDk) (j : Nat) (tv wv : Value) (B : List TB) (h : Pl w0 w P D R j tv wv B) (hT : TabAt w0) (hj : j + 200 ≤ 100000000) :
    Calls Tryz.prog 29 #[.pointer (some ⟨P, 0, none⟩)] w (StP w0 P (j + 1)) := by
  have hnb : D.abs.nb ≤ 16384 := (by have := h.s.d.nb1; show D.nb ≤ 16384; omega)
  have hfl : D.abs.down = false → D.abs.full.length = 512 * D.abs.nb := fun e => h.s.t.flen e
  have hnn := bhX_len hnb hfl
  obtain ⟨d, hd⟩ : ∃ d, D.d = d := ⟨_, rfl⟩
  obtain ⟨r, hr⟩ : ∃ r, R.r = r := ⟨_, rfl⟩
  have HD : Hid (D.d = d ∧ R.r = r) := ⟨hd, hr⟩
  have HP : Hid (Pl w0 w P D R j tv wv B) := h
  have HC : Hid (∀ wx, Below w.heap.size w wx → wx.cell? ⟨P, 0, none⟩ = some (.pointer (some ⟨d, 0, none⟩)) ∧ wx.cell? ⟨P, 1, none⟩ = some (.pointer (some ⟨r, 0, none⟩))) := fun wx hx => by
    have y1 := (below_fr hx (fun _ => False)).heap h.box (fun e => e)
    rw [hd, hr] at y1
    exact ⟨cell_of_row _ _ 0 _ _ _ y1, cell_of_row _ _ 1 _ _ _ y1⟩
  obtain ⟨E, hE⟩ : ∃ E, opE D.abs = E := ⟨_, rfl⟩
  obtain ⟨X, hX⟩ : ∃ X, bhX D.abs = X := ⟨_, rfl⟩
  obtain ⟨n, hn⟩ : ∃ n, X.length = n := ⟨_, rfl⟩
  rw [hX, hn] at hnn
  have HXn : Hid (X.length = n) := hn
  have HRb : Hid (Calls Tryz.prog 66 #[.pointer (some ⟨r, 0, none⟩)] w (BhQ w n X E)) := by
    have := (rbehind_any w D.abs R j h.s.t).mono (fun e w' h => h.q hnb hfl)
    rw [hr, hE, hX, hn] at this; exact this
  have HDb : Hid (∀ wx, Below w.heap.size w wx → Calls Tryz.prog 22 #[.pointer (some ⟨d, 0, none⟩)] wx (BhQ wx n X E)) := fun wx hx => by
    have := (pbehind_any wx D (h.s.d.on hx) (hT.on (h.s.be.trans (hx.mono h.s.be.size)))).mono (fun e w' h => h.q hnb hfl)
    rw [hd, hE, hX, hn] at this; exact this
  clear h hd hr hE hX hn hnb hfl hT
  obtain ⟨c0, c1⟩ := HC.out w (Below.refl _ _)
  go_enter Tryz.func29, Tryz.ntmps29
  go_upto_region 2 with (go_at_call 66; refine HRb.out.mono ?_; rintro e w1 ⟨p1, q1, rfl, h1, h2⟩; have H1 : Hid (Tl w1 w.heap.size p1 q1 X ∧ Below w.heap.size w w1) := ⟨h1, h2⟩; clear h1 h2)
  clear c0 c1
  obtain ⟨c0, c1⟩ := HC.out w1 H1.out.2
  have HD1 : Hid (Calls Tryz.prog 22 #[.pointer (some ⟨d, 0, none⟩)] w1 (BhQ w1 n X E)) := HDb.out w1 H1.out.2
  go_upto_region 3 with (go_at_call 22; refine HD1.out.mono ?_; rintro e w2 ⟨p2, q2, rfl, h1, h2⟩; have H2 : Hid (Tl w2 w.heap.size p2 q2 X ∧ Below w1.heap.size w1 w2 ∧ Below w.heap.size w w2) := ⟨⟨h1.own, fun k e => Nat.le_trans H1.out.2.size (h1.far k e), h1.wf⟩, h2, H1.out.2.trans (h2.mono H1.out.2.size)⟩; clear h1 h2)
  clear c0 c1
  obtain ⟨c0, c1⟩ := HC.out w2 H2.out.2.2
  have HD2 : Hid (Calls Tryz.prog 22 #[.pointer (some ⟨d, 0, none⟩)] w2 (BhQ w2 n X E)) := HDb.out w2 H2.out.2.2
  go_upto_region 4 with (go_at_call 22; refine HD2.out.mono ?_; rintro e w3 ⟨p3, q3, rfl, h1, h2⟩; have H3 : Hid (Tl w3 w2.heap.size p3 q3 X ∧ Below w2.heap.size w2 w3 ∧ Below w.heap.size w w3) := ⟨h1, h2, H2.out.2.2.trans (h2.mono H2.out.2.2.size)⟩; clear h1 h2)
  clear c0 c1
  have HX15 : Hid (X.length ≤ 1000000000000000) := (by rw [HXn.out]; exact Nat.le_trans hnn (by decide))
  have HB1 : Hid (Bytes w3 p1 X ∧ Bytes w3 p2 X ∧ Bytes w3 p3 X) := ⟨((H1.out.1.on H2.out.2.1).on H3.out.2.1).bytes HX15.out, (H2.out.1.on H3.out.2.1).bytes HX15.out, H3.out.1.bytes HX15.out⟩
  have HS1 : Hid (Calls Tryz.prog 14 #[.slice p2 n q2, .slice p1 n q1] w3 fun e w' => e = .returned (.bool true) ∧ w3 = w') := sameBytes_yes w3 _ _ n q2 q1 X HB1.out.2.1 HB1.out.1 HXn.out
  have HS2 : Hid (Calls Tryz.prog 14 #[.slice p3 n q3, .slice p1 n q1] w3 fun e w' => e = .returned (.bool true) ∧ w3 = w') := sameBytes_yes w3 _ _ n q3 q1 X HB1.out.2.2 HB1.out.1 HXn.out
  go_upto_region 6 with (first
    | (go_at_call 14; refine HS1.out.mono ?_; rintro e w' ⟨rfl, rfl⟩; clear HS1)
    | (go_at_call 14; refine HS2.out.mono ?_; rintro e w' ⟨rfl, rfl⟩; clear HS2))
  go_wp2
  go_loopw [9] (fun s9 wr => ∃ i : Nat, i ≤ n ∧ s9 = .int .i64 i ∧ ∃ Y : List Int, Y.length = n ∧ (∀ k, 0 ≤ nth Y k ∧ nth Y k < 256) ∧ wr.ownsRow 0 5 1 (.slice p3 n q3) n (Y.map (Value.int .u8)) ∧ Below w2.heap.size w2 wr) (fun s9 _ => n - (intOf s9).toNat)
  case atStart => exact ⟨0, Nat.zero_le _, rfl, X, HXn.out, H3.out.1.wf, by have := H3.out.1.own; rw [HXn.out] at this; exact this, H3.out.2.1⟩
  case round =>
    obtain ⟨i, hi, rfl, Y, hY, hYw, hYo, hYb⟩ := hrel
    have HY : Hid (Y.length = n ∧ (∀ k, 0 ≤ nth Y k ∧ nth Y k < 256) ∧ wr.ownsRow 0 5 1 (.slice p3 n q3) n (Y.map (Value.int .u8)) ∧ Below w2.heap.size w2 wr) := ⟨hY, hYw, hYo, hYb⟩
    clear hY hYw hYo hYb
    by_cases hlt : i < n
    · obtain ⟨g3, e3⟩ : ∃ g3, p3 = some ⟨g3, 0, none⟩ := by
        rcases HY.out.2.2.1.2 with ⟨e, h0⟩ | ⟨g, cap, cur, e, _⟩
        · omega
        · injection e with e1; exact ⟨g, e1⟩
      subst e3
      have hO : OwnB wr g3 q3 Y := ownB_of HY.out.2.2.1 HY.out.1 (by omega) HY.out.2.1
      have x1 := hO.cell i (by rw [HY.out.1]; exact hlt)
      have x2 := hO.frozen i
      have HN : Hid (OwnB (wr.setCell ⟨g3, i, none⟩ (.int .u8 99)) g3 q3 (Y.set i 99)) := hO.set i 99 (by rw [HY.out.1]; exact hlt) (by decide)
      have HF : Hid (Below w2.heap.size w2 (wr.setCell ⟨g3, i, none⟩ (.int .u8 99))) := HY.out.2.2.2.trans (Fr.set.below _ (fun k e => by rw [show k = g3 from e]; exact H3.out.1.far g3 rfl) HY.out.2.2.2.size)
      clear hO
      go_wp2
      exact ⟨⟨i + 1, hlt, rfl, Y.set i 99, by rw [List.length_set]; exact HY.out.1, HN.out.wf, by have := owns_of HN.out (Nat.zero_le g3); rw [List.length_set, HY.out.1] at this; exact this, HF.out⟩, by simp [intOf]; omega⟩
    · have hA : Below wr.heap.size wr (wr.alloc (.cells #[.int .u8 99] 5)) := (Below.refl _ _).alloc (Nat.le_refl _) _
      go_upto_region 11 with (at_builtin; refine wp_bown rfl (.tmp 64) (.tmp 65) rfl (.slice p3 n q3) n Y rfl (owns_on HY.out.2.2.1 hA) ⟨wr.heap.size, 0, none⟩ 1 1 [99] rfl (by decide) rfl (news1b (heap_alloc_new wr _)) (by omega) ?_
                              intro g5 cap5 w5 h1 h2 h3
                              go_frame
                              have H5 : Hid (Below w2.heap.size w2 w5) := (HY.out.2.2.2.trans (hA.mono HY.out.2.2.2.size)).trans (h2.below _ (fun k e => H3.out.1.far k (by rw [HXn.out]; exact e)) (Nat.le_trans HY.out.2.2.2.size hA.size))
                              clear h1 h2 h3)
      clear hA
      have HB5 : Hid (Below w.heap.size w w5) := H2.out.2.2.trans (H5.out.mono H2.out.2.2.size)
      have HP5 : Hid (PlG w0 w5 P D R j tv wv B B) := (HP.out.on HB5.out).g
      have HQ5 : Hid ((X = [] ∧ p2 = none ∧ q2 = 0) ∨ ∃ g, p2 = some ⟨g, 0, none⟩ ∧ OwnB w5 g q2 X ∧ Ap w0 D R g) := by
        rcases H2.out.1.pt HX15.out with e | ⟨g, e, ho, hg⟩
        · exact .inl e
        · exact .inr ⟨g, e, ho.on H5.out, Nat.le_trans HP.out.s.be.size hg, fun e => by have := HP.out.s.lt (.inl e); omega, fun e => by have := HP.out.s.lt (.inr e); omega⟩
      have HBn : Hid (∃ bn, B.length = bn ∧ bn ≤ j) := ⟨_, rfl, HP.out.bl⟩
      obtain ⟨bn, hbn, hbj⟩ := HBn.out
      have HBl : Hid (B.length = bn) := hbn
      clear hbn HBn
      obtain ⟨i2, k1, k2, k3, k4⟩ := info_parts infoSy
      obtain ⟨i3, m1, m2, m3, m4⟩ := info_parts infoSt
      have HV : Hid ((⟨p2, q2, X⟩ : TB).v = .slice p2 n q2) := by
        show Value.slice p2 X.length q2 = _
        rw [HXn.out]
      have c2 : w5.cell? ⟨P, 2, none⟩ = some tv := cell_of_row _ _ 2 _ _ _ HP5.out.box
      have HTo : Hid (w5.ownsRow 0 37 1 tv bn (B.map TB.v)) := by have := HP5.out.told; rw [HBl.out] at this; exact this
      go_upto_region 12 with (at_builtin
                              have hA : Below w5.heap.size w5 (w5.alloc (.cells #[.slice p2 n q2] 37)) := (Below.refl _ _).alloc (Nat.le_refl _) _
                              refine wp_own rfl (.tmp 71) (.tmp 73) 33 rfl 37 i2 _ 1 24 Tryz.underlying33 k1 k2 k3 k4 rfl (by decide) tv bn (B.map TB.v) rfl (owns_on HTo.out hA) ⟨w5.heap.size, 0, none⟩ 1 1 [.slice p2 n q2] rfl (by decide) rfl (news_of (heap_alloc_new w5 _) _ rfl) (by intro u hu; simp at hu; subst hu; rfl) (by unfold maxLen; omega) (by omega) ?_
                              intro g6 cap6 w6 h1 h2 h3
                              go_frame
                              have H6 : Hid ((w6.cell? ⟨P, 2, none⟩ = some tv ∧ w6.frozen? ⟨P, 2, none⟩ = false) ∧ PlG w0 (w6.setCell ⟨P, 2, none⟩ (.slice (some ⟨g6, 0, none⟩) (bn + 1) cap6)) P D R j (.slice (some ⟨g6, 0, none⟩) (bn + 1) cap6) wv (B ++ [⟨p2, q2, X⟩]) B) := HP5.out.told1 (q := ⟨p2, q2, X⟩) HBl.out hA HQ5.out (by rw [HV.out]; exact h1) h2 h3
                              have HT6 : Hid (Fr (fun k => k = P ∨ tv.ownBlock = some k) w5 (w6.setCell ⟨P, 2, none⟩ (.slice (some ⟨g6, 0, none⟩) (bn + 1) cap6))) := ((below_fr hA (fun k => k = P ∨ tv.ownBlock = some k)).trans h2 (fun k e => .inl (.inr e))).trans Fr.set (fun k e => .inl (.inl e))
                              have x1 := H6.out.1.1
                              have x2 := H6.out.1.2
                              clear h1 h2 h3 hA)
      clear c2
      have HO1 : Hid (Bytes (w6.setCell ⟨P, 2, none⟩ (.slice (some ⟨g6, 0, none⟩) (bn + 1) cap6)) p1 X) := by
        rcases ((H1.out.1.on H2.out.2.1).on H5.out).pt HX15.out with ⟨e, e2, _⟩ | ⟨g, e, ho, _⟩
        · rw [e, e2]; exact nil_bytes _
        · rw [e]
          exact (ho.fr HT6.out (fun e2 => by
            rcases e2 with e2 | e2
            · exact box_ne HP5.out.box ho e2
            · exact own_apart7 HP5.out.told ho (by decide) e2)).bytes
      have HG6 : Hid (PlG w0 (w6.setCell ⟨P, 2, none⟩ (.slice (some ⟨g6, 0, none⟩) (bn + 1) cap6)) P D R j (.slice (some ⟨g6, 0, none⟩) (bn + 1) cap6) wv (B ++ [⟨p2, q2, X⟩]) B) := H6.out.2
      clear x1 x2 H6
      obtain ⟨w7, hw7⟩ : ∃ w7, w6.setCell ⟨P, 2, none⟩ (.slice (some ⟨g6, 0, none⟩) (bn + 1) cap6) = w7 := ⟨_, rfl⟩
      rw [hw7] at HO1 HG6 ⊢
      clear hw7 HT6
      have HWo : Hid (w7.drew.ownsRow 0 9 1 wv bn (B.map TB.s)) := by have := owns_on HG6.out.was (Below.refl _ _).drew; rw [HBl.out] at this; exact this
      have e1 : (convert 37 9 (.slice p1 n q1)).run Tryz.prog w7.drew = .ok (.string (strOfNums X)) w7.drew := str_opt (HO1.out.on (Below.refl _ _).drew) HXn.out
      have hS0 : w7.drew.cell? ⟨P, 3, none⟩ = some wv ∧ w7.drew.frozen? ⟨P, 3, none⟩ = false := by
        have := (below_fr (Below.refl w7.heap.size w7).drew (fun _ => False)).heap HG6.out.box (fun e => e)
        exact ⟨cell_of_row _ _ 3 _ _ _ this, frozen_of_row _ _ _ _ _ this⟩
      obtain ⟨x0, x00⟩ := hS0
      have x1 : (w7.drew.alloc (.cells #[.string (strOfNums X)] 9)).cell? ⟨P, 3, none⟩ = some wv := (below_fr ((Below.refl w7.drew.heap.size w7.drew).alloc (Nat.le_refl _) _) (fun _ => False)).cell x0 (fun e => e)
      have x2 : (w7.alloc (.cells #[.string (strOfNums X)] 9)).drew.cell? ⟨P, 3, none⟩ = some wv := x1
      go_region_law (first
        | (refine step_own (by rfl) (.tmp 81) (.tmp 84) 34 (by rfl) 9 i3 _ 1 16 Tryz.underlying34 m1 m2 m3 m4 (by rfl) (by decide) wv bn (B.map TB.s) (by rfl) (owns_on HWo.out ((Below.refl _ _).alloc (Nat.le_refl _) _)) ⟨w7.heap.size, 0, none⟩ 1 1 [.string (strOfNums X)] (by rfl) (by decide) rfl (news_of (heap_alloc_new w7.drew _) _ rfl) (by intro u hu; simp at hu; subst hu; rfl) (by unfold maxLen; omega) (by omega) ?_
           intro g8 cap8 w8 h1 h2 h3
           have H8 : Hid ((w8.cell? ⟨P, 3, none⟩ = some wv ∧ w8.frozen? ⟨P, 3, none⟩ = false) ∧ PlG w0 (w8.setCell ⟨P, 3, none⟩ (.slice (some ⟨g8, 0, none⟩) (bn + 1) cap8)) P D R j (.slice (some ⟨g6, 0, none⟩) (bn + 1) cap6) (.slice (some ⟨g8, 0, none⟩) (bn + 1) cap8) (B ++ [⟨p2, q2, X⟩]) (B ++ [⟨p2, q2, X⟩])) := HG6.out.was1 (q := ⟨p2, q2, X⟩) HBl.out ((Below.refl w7.heap.size w7).drew.alloc (Nat.le_refl _) _) h1 h2 h3
           have x8 := H8.out.1.1
           have x9 := H8.out.1.2
           clear h1 h2 h3))
      all_goals
        go_wp2
        go_ret
        have := H8.out.2
        exact ⟨rfl, D, R, _, _, _, ⟨this.s.up (by omega), this.box, this.pn, this.told, this.was, this.tn, this.wn, this.each, by rw [List.length_append, HBl.out]; show bn + 1 ≤ _; omega⟩⟩
end Go.Proofs.YtamlbpbhlgmcoaaGreatDoor

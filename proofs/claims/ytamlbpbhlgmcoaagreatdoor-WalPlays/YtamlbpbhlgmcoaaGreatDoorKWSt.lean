import Derived.Test.YtamlbpbhlgmcoaaGreatDoorKWalB
import Derived.Defers
import Derived.Recover
namespace Go.Proofs.YtamlbpbhlgmcoaaGreatDoor
open Go.RowKit Rec

/-- a block's bytes in a row of their own -/
structure BlkAt (w : World) (g : Nat) (x : List Int) : Prop where
  own : ∃ cap y, OwnB w g cap (x ++ y)
  len : x.length = 512
theorem BlkAt.lt {w : World} {g : Nat} {x : List Int} (h : BlkAt w g x) : g < w.heap.size := by obtain ⟨c, y, ho⟩ := h.own; exact ho.lt
theorem BlkAt.fr {S : Nat → Prop} {w w' : World} {g : Nat} {x : List Int} (h : BlkAt w g x) (f : Fr S w w') (hk : ¬ S g) : BlkAt w' g x := by
  obtain ⟨c, y, ho⟩ := h.own
  exact ⟨⟨c, y, ho.fr f hk⟩, h.len⟩
theorem BlkAt.on {w w' : World} {g : Nat} {x : List Int} (h : BlkAt w g x) (f : Below w.heap.size w w') : BlkAt w' g x := h.fr (below_fr f (fun _ => False)) (fun e => e)
theorem BlkAt.bytes {w : World} {g : Nat} {x : List Int} (h : BlkAt w g x) : Bytes w (some ⟨g, 0, none⟩) x := by
  obtain ⟨c, y, ho⟩ := h.own
  have := ho.bytes.take x.length
  rwa [List.take_left] at this
theorem BlkAt.row {w : World} {g : Nat} {x : List Int} (h : BlkAt w g x) : ∃ cur, w.heap[g]? = some (.cells cur 5 (0, 0)) := by
  obtain ⟨c, y, ho⟩ := h.own
  obtain ⟨cur, hc, _⟩ := ho.row
  exact ⟨cur, hc⟩
theorem BlkAt.of {w : World} {g cap : Nat} {x : List Int} (h : OwnB w g cap x) (hl : x.length = 512) : BlkAt w g x := ⟨⟨cap, [], by rw [List.append_nil]; exact h⟩, hl⟩
/-- a step: a closure, and what it does to the disk -/
def JobAt (w : World) (D : Dk) (p : Nat) (f : Value) : WA → Prop
  | some q => ∃ s n b g c, f = .func (.func 81) #[] #[.pointer (some ⟨s, 0, none⟩), .pointer (some ⟨n, 0, none⟩), .pointer (some ⟨b, 0, none⟩)] ∧ w.heap[s]? = some (.cells #[.pointer (some ⟨p, 0, none⟩)] 86 (0, 0)) ∧ w.heap[n]? = some (.cells #[.int .i64 q.1] 3 (0, 0)) ∧ w.heap[b]? = some (.cells #[.slice (some ⟨g, 0, none⟩) 512 c] 37 (0, 0)) ∧ BlkAt w g q.2 ∧ q.1 < D.nb ∧ ¬ D.has s ∧ ¬ D.has n ∧ ¬ D.has b ∧ ¬ D.has g
  | none => ∃ s, f = .func (.func 82) #[] #[.pointer (some ⟨s, 0, none⟩)] ∧ w.heap[s]? = some (.cells #[.pointer (some ⟨p, 0, none⟩)] 86 (0, 0)) ∧ ¬ D.has s
theorem JobAt.fr {S : Nat → Prop} {w w' : World} {D : Dk} {p : Nat} {f : Value} {t : WA} (h : JobAt w D p f t) (x : Fr S w w') (hS : ∀ k cs ty fz, w.heap[k]? = some (.cells cs ty fz) → (ty = 86 ∨ ty = 3 ∨ ty = 37 ∨ ty = 5) → ¬ D.has k → ¬ S k) : JobAt w' D p f t := by
  cases t with
  | none =>
    obtain ⟨s, e, h1, h2⟩ := h
    exact ⟨s, e, x.heap h1 (hS _ _ _ _ h1 (.inl rfl) h2), h2⟩
  | some q =>
    obtain ⟨s, n, b, g, c, e, h1, h2, h3, h4, h5, h6, h7, h8, h9⟩ := h
    obtain ⟨cur, hc⟩ := h4.row
    exact ⟨s, n, b, g, c, e, x.heap h1 (hS _ _ _ _ h1 (.inl rfl) h6), x.heap h2 (hS _ _ _ _ h2 (.inr (.inl rfl)) h7), x.heap h3 (hS _ _ _ _ h3 (.inr (.inr (.inl rfl))) h8), h4.fr x (hS _ _ _ _ hc (.inr (.inr (.inr rfl))) h9), h5, h6, h7, h8, h9⟩
theorem JobAt.on {w w' : World} {D : Dk} {p : Nat} {f : Value} {t : WA} (h : JobAt w D p f t) (x : Below w.heap.size w w') : JobAt w' D p f t := h.fr (below_fr x (fun _ => False)) (fun _ _ _ _ _ _ _ e => e)
theorem JobAt.mv {w w' : World} {D D' : Dk} {p : Nat} {f : Value} {t : WA} (h : JobAt w D p f t) (x : Mv w D w' D') : JobAt w' D' p f t := by
  have hn : ∀ {k : Nat}, k < w.heap.size → ¬ D.has k → ¬ D'.has k := fun hk hd e => (x.has _ e).elim hd (fun e => by omega)
  cases t with
  | none =>
    obtain ⟨s, e, h1, h2⟩ := h
    exact ⟨s, e, x.fr.heap h1 h2, hn (heap_lt h1) h2⟩
  | some q =>
    obtain ⟨s, n, b, g, c, e, h1, h2, h3, h4, h5, h6, h7, h8, h9⟩ := h
    exact ⟨s, n, b, g, c, e, x.fr.heap h1 h6, x.fr.heap h2 h7, x.fr.heap h3 h8, h4.fr x.fr h9, by rw [x.nb]; exact h5, hn (heap_lt h1) h6, hn (heap_lt h2) h7, hn (heap_lt h3) h8, hn h4.lt h9⟩
/-- the steps that are still to be done -/
structure StepsAt (w : World) (D : Dk) (p : Nat) (v : Value) (fs : List Value) (acts : List WA) : Prop where
  row : w.heap[p]? = some (.cells #[.pointer (some ⟨D.d, 0, none⟩), v] 89 (0, 0))
  own : w.ownsRow 0 71 1 v acts.length fs
  jobs : ∀ (i : Nat) (t : WA), acts[i]? = some t → ∃ f, fs[i]? = some f ∧ JobAt w D p f t
  np : ¬ D.has p
  nv : ∀ k, v.ownBlock = some k → ¬ D.has k
theorem StepsAt.fsl {w : World} {D : Dk} {p : Nat} {v : Value} {fs : List Value} {acts : List WA} (h : StepsAt w D p v fs acts) : fs.length = acts.length := by
  have := h.own.1; omega
theorem StepsAt.on {w w' : World} {D : Dk} {p : Nat} {v : Value} {fs : List Value} {acts : List WA} (h : StepsAt w D p v fs acts) (x : Below w.heap.size w w') : StepsAt w' D p v fs acts :=
  ⟨(x.block _ (heap_lt h.row)).trans h.row, owns_on h.own x, fun i t ht => by obtain ⟨f, hf, hj⟩ := h.jobs i t ht; exact ⟨f, hf, hj.on x⟩, h.np, h.nv⟩
theorem StepsAt.mv {w w' : World} {D D' : Dk} {p : Nat} {v : Value} {fs : List Value} {acts : List WA} (h : StepsAt w D p v fs acts) (x : Mv w D w' D') : StepsAt w' D' p v fs acts := by
  have hn : ∀ {k : Nat}, k < w.heap.size → ¬ D.has k → ¬ D'.has k := fun hk hd e => (x.has _ e).elim hd (fun e => by omega)
  refine ⟨?_, owns_fr h.own x.fr h.nv, fun i t ht => by obtain ⟨f, hf, hj⟩ := h.jobs i t ht; exact ⟨f, hf, hj.mv x⟩, hn (heap_lt h.row) h.np, fun k hk => hn (owns_block h.own hk) (h.nv k hk)⟩
  rw [x.d]
  exact x.fr.heap h.row h.np
theorem StepsAt.cells {w : World} {D : Dk} {p : Nat} {v : Value} {fs : List Value} {acts : List WA} (h : StepsAt w D p v fs acts) : w.cell? ⟨p, 0, none⟩ = some (.pointer (some ⟨D.d, 0, none⟩)) ∧ w.cell? ⟨p, 1, none⟩ = some v ∧ (∀ i, w.frozen? ⟨p, i, none⟩ = false) :=
  ⟨by rw [cell_of_row _ _ _ _ _ _ h.row]; rfl, by rw [cell_of_row _ _ _ _ _ _ h.row]; rfl, fun i => frozen_of_row _ _ _ _ _ h.row⟩
/-- one step more -/
theorem StepsAt.more {w w' : World} {D : Dk} {p : Nat} {v : Value} {fs : List Value} {acts : List WA} {f : Value} {t : WA} {g cap : Nat} (h : StepsAt w D p v fs acts) (hj : JobAt w D p f t)
    (ho : w'.ownsRow 0 71 1 (.slice (some ⟨g, 0, none⟩) (acts.length + 1) cap) (acts.length + 1) (fs ++ [f])) (hf : Fr (fun k => v.ownBlock = some k) w w') (hg : v.ownBlock = some g ∨ w.heap.size ≤ g) (hlt : ∀ k, D.has k → k < w.heap.size) :
    StepsAt (w'.setCell ⟨p, 1, none⟩ (.slice (some ⟨g, 0, none⟩) (acts.length + 1) cap)) D p (.slice (some ⟨g, 0, none⟩) (acts.length + 1) cap) (fs ++ [f]) (acts ++ [t]) := by
  have hnp : ¬ v.ownBlock = some p := own_apartR h.own h.row (by decide)
  have hrow : w'.heap[p]? = some (.cells #[.pointer (some ⟨D.d, 0, none⟩), v] 89 (0, 0)) := hf.heap h.row hnp
  have hgp : g ≠ p := fun e => by
    have := own_apartR ho hrow (by decide)
    exact this (by rw [e]; rfl)
  have hset : Fr (fun k => k = p) w' (w'.setCell ⟨p, 1, none⟩ (.slice (some ⟨g, 0, none⟩) (acts.length + 1) cap)) := Fr.set
  have keep : ∀ {f t}, JobAt w D p f t → JobAt (w'.setCell ⟨p, 1, none⟩ (.slice (some ⟨g, 0, none⟩) (acts.length + 1) cap)) D p f t := fun hj => by
    refine (hj.fr hf (fun k cs ty fz hk hty _ e => ?_)).fr hset (fun k cs ty fz hk hty _ e => ?_)
    · obtain ⟨c1, h1⟩ := own_type h.own e
      rw [h1] at hk; cases hk
      rcases hty with hty | hty | hty | hty <;> exact absurd hty (by decide)
    · subst e
      rw [hrow] at hk; cases hk
      rcases hty with hty | hty | hty | hty <;> exact absurd hty (by decide)
  refine ⟨?_, ?_, fun i u hu => ?_, h.np, fun k hk => ?_⟩
  · exact heap_setCell_same _ _ _ _ _ _ hrow
  · rw [List.length_append]
    exact owns_fr ho hset (fun k hk e => by cases hk; exact hgp e)
  · by_cases hi : i < acts.length
    · rw [List.getElem?_append_left hi] at hu
      obtain ⟨f', hf', hj'⟩ := h.jobs i u hu
      exact ⟨f', by rw [List.getElem?_append_left (by rw [h.fsl]; exact hi)]; exact hf', keep hj'⟩
    · have hi2 : i = acts.length := by
        have := List.getElem?_eq_some_iff.1 hu
        obtain ⟨hl, _⟩ := this
        simp at hl; omega
      subst hi2
      rw [List.getElem?_append_right (Nat.le_refl _)] at hu
      simp at hu
      subst hu
      exact ⟨f, by rw [List.getElem?_append_right (by rw [h.fsl]; exact Nat.le_refl _), h.fsl]; simp, keep hj⟩
  · cases hk
    rcases hg with e | e
    · exact h.nv g e
    · intro hd; have : g < w.heap.size := hlt _ hd; omega
end Go.Proofs.YtamlbpbhlgmcoaaGreatDoor

namespace Go.Proofs.YtamlbpbhlgmcoaaGreatDoor
open Go.RowKit Rec

/-- what is given up with -/
abbrev gaveV (e : Int) : Value := .iface 26 (.int .i64 e)
abbrev gave (e : Int) : Ending := .panicked [{ v := gaveV e, recovered := false }]
set_option maxRecDepth 100000 in
theorem must_yes (w : World) (e : Int) : Calls Tryz.prog 85 #[.bool true, .int .i64 e] w fun r w' => r = .returned (.tuple #[]) ∧ w = w' := by
  go_enter Tryz.func85, Tryz.ntmps85
  go_wp2
  go_end0
  exact ⟨rfl, rfl⟩
set_option maxRecDepth 100000 in
theorem must_no (w : World) (e : Int) : Calls Tryz.prog 85 #[.bool false, .int .i64 e] w fun r w' => r = gave e ∧ w = w' := by
  go_enter Tryz.func85, Tryz.ntmps85
  go_wp2
  exact ⟨rfl, rfl, rfl⟩
set_option maxRecDepth 100000 in
set_option maxHeartbeats 1600000 in
theorem wread_yes (w : World) (D : Dk) (h : Disk w D) (i : Nat) (hi : i < D.nb) (hd : D.down = false) : Calls Tryz.prog 83 #[.pointer (some ⟨D.d, 0, none⟩), .int .i64 i] w fun e w' => ∃ g cap, e = .returned (.slice (some ⟨g, 0, none⟩) 512 cap) ∧ w.heap.size ≤ g ∧ OwnB w' g cap (bck D.full i) ∧ Below w.heap.size w w' := by
  have HR : Hid (Calls Tryz.prog 20 #[.pointer (some ⟨D.d, 0, none⟩), .int .i64 i] w fun e w' => ∃ g cap, e = .returned (.tuple #[.slice (some ⟨g, 0, none⟩) 512 cap, .int .i64 0]) ∧ w.heap.size ≤ g ∧ OwnB w' g cap (bck D.full i) ∧ Below w.heap.size w w') := read_yes w D h i hi hd
  clear h hi hd
  go_enter Tryz.func83, Tryz.ntmps83
  go_wp2_with (first
    | (go_at_call 20; refine HR.out.mono ?_; rintro e w1 ⟨g, cap, rfl, h1, h2, h3⟩; have H1 : Hid (w.heap.size ≤ g ∧ OwnB w1 g cap (bck D.full i) ∧ Below w.heap.size w w1) := ⟨h1, h2, h3⟩; clear h1 h2 h3)
    | (go_at_call 85; refine (must_yes _ _).mono ?_; rintro e w' ⟨rfl, rfl⟩))
  go_ret
  exact ⟨g, cap, rfl, H1.out⟩
set_option maxRecDepth 100000 in
set_option maxHeartbeats 1600000 in
theorem wread_no (w : World) (D : Dk) (h : Disk w D) (i : Int) (ht : touchE D i ≠ 0) : Calls Tryz.prog 83 #[.pointer (some ⟨D.d, 0, none⟩), .int .i64 i] w fun e w' => e = gave (touchE D i) ∧ w = w' := by
  have HR : Hid (Calls Tryz.prog 20 #[.pointer (some ⟨D.d, 0, none⟩), .int .i64 i] w fun e w' => e = .returned (.tuple #[.slice none 0 0, .int .i64 (touchE D i)]) ∧ w = w') := read_no w D h i ht
  have hn : (touchE D i == 0) = false := by simpa using ht
  clear h ht
  go_enter Tryz.func83, Tryz.ntmps83
  go_wp2_with (first
    | (go_at_call 20; refine HR.out.mono ?_; rintro e w1 ⟨rfl, rfl⟩)
    | (go_at_call 85; refine (must_no _ _).mono ?_; rintro e w' ⟨rfl, rfl⟩))
  exact ⟨rfl, rfl, rfl⟩
end Go.Proofs.YtamlbpbhlgmcoaaGreatDoor

namespace Go.Proofs.YtamlbpbhlgmcoaaGreatDoor
open Go.RowKit Rec

/-- a block that was read: where its bytes lie, its bytes -/
structure Rb where
  g : Nat
  c : Nat
  x : List Int
def Rb.v (q : Rb) : Value := .slice (some ⟨q.g, 0, none⟩) 512 q.c
/-- blocks that were read, from one on -/
structure ReadAt (w0 w : World) (F : List Int) (f k : Nat) (v : Value) (L : List Rb) : Prop where
  row : w.ownsRow 0 37 1 v k (L.map Rb.v)
  len : L.length = k
  at_ : ∀ (i : Nat) (q : Rb), L[i]? = some q → q.x = bck F (f + i) ∧ OwnB w q.g q.c q.x ∧ w0.heap.size ≤ q.g
  far : ∀ b, v.ownBlock = some b → w0.heap.size ≤ b
  bel : Below w0.heap.size w0 w
theorem ReadAt.on {w0 w w' : World} {F : List Int} {f k : Nat} {v : Value} {L : List Rb} (h : ReadAt w0 w F f k v L) (hb : Below w.heap.size w w') : ReadAt w0 w' F f k v L :=
  ⟨owns_on h.row hb, h.len, fun i q hq => ⟨(h.at_ i q hq).1, (h.at_ i q hq).2.1.on hb, (h.at_ i q hq).2.2⟩, h.far, h.bel.trans (hb.mono h.bel.size)⟩
theorem ReadAt.from {w0 w1 w : World} {F : List Int} {f k : Nat} {v : Value} {L : List Rb} (h : ReadAt w1 w F f k v L) (hb : Below w0.heap.size w0 w1) : ReadAt w0 w F f k v L :=
  ⟨h.row, h.len, fun i q hq => ⟨(h.at_ i q hq).1, (h.at_ i q hq).2.1, Nat.le_trans hb.size (h.at_ i q hq).2.2⟩, fun b hk => Nat.le_trans hb.size (h.far b hk), hb.trans (h.bel.mono hb.size)⟩
theorem ReadAt.start {w0 : World} {F : List Int} {f : Nat} : ReadAt w0 w0 F f 0 (.slice none 0 0) [] :=
  ⟨⟨rfl, .inl ⟨rfl, rfl⟩⟩, rfl, (fun i q h => by simp at h), (fun b h => by cases h), Below.refl _ _⟩
theorem ReadAt.next {w0 wr w1 w' : World} {F : List Int} {f k g g2 c c2 : Nat} {v : Value} {L : List Rb} (h : ReadAt w0 wr F f k v L) (hb : Below wr.heap.size wr w1) (hg : wr.heap.size ≤ g) (ho : OwnB w1 g c (bck F (f + k)))
    (h1 : w'.ownsRow 0 37 1 (.slice (some ⟨g2, 0, none⟩) (k + 1) c2) (k + 1) (L.map Rb.v ++ [.slice (some ⟨g, 0, none⟩) 512 c])) (h2 : Fr (fun b => v.ownBlock = some b) w1 w') (h3 : v.ownBlock = some g2 ∨ w1.heap.size ≤ g2) :
    ReadAt w0 w' F f (k + 1) (.slice (some ⟨g2, 0, none⟩) (k + 1) c2) (L ++ [⟨g, c, bck F (f + k)⟩]) := by
  have hA := h.on hb
  have hs : w0.heap.size ≤ wr.heap.size := h.bel.size
  have hs1 : wr.heap.size ≤ w1.heap.size := hb.size
  refine ⟨by rw [List.map_append]; exact h1, by rw [List.length_append, h.len]; rfl, fun i q hq => ?_, fun b hk => ?_, hA.bel.trans (h2.below _ h.far hA.bel.size)⟩
  · by_cases hi : i < L.length
    · rw [List.getElem?_append_left hi] at hq
      obtain ⟨a1, a2, a3⟩ := hA.at_ i q hq
      exact ⟨a1, a2.fr h2 (own_apartB hA.row a2 (by decide)), a3⟩
    · have hi2 : i = L.length := by
        have := (List.getElem?_eq_some_iff.1 hq).1
        simp at this; omega
      subst hi2
      simp at hq
      subst hq
      rw [h.len]
      exact ⟨rfl, ho.fr h2 (own_apartB hA.row ho (by decide)), by show w0.heap.size ≤ g; omega⟩
  · cases hk
    rcases h3 with e | e
    · exact h.far _ e
    · exact Nat.le_trans (Nat.le_trans hs hs1) e
set_option maxRecDepth 100000 in
set_option maxHeartbeats 4000000 in
theorem readFrom_any (w : World) (D : Dk) (h : Disk w D) (hd : D.down = false) (f n : Nat) (hn : f + n ≤ D.nb) :
    Calls Tryz.prog 57 #[.pointer (some ⟨D.d, 0, none⟩), .int .i64 f, .int .i64 n] w fun e w' => ∃ v L, e = .returned v ∧ ReadAt w w' D.full f n v L := by
  have hnb := h.nb1
  have HD : Hid (Disk w D) := h
  have HDn : Hid (D.down = false) := hd
  obtain ⟨F, hF⟩ : ∃ F, D.full = F := ⟨_, rfl⟩
  have HF : Hid (D.full = F) := hF
  rw [hF]
  clear h hd hF
  go_enter Tryz.func57, Tryz.ntmps57
  go_wp2
  go_loopw [7, 10] (fun s7 s10 wr => ∃ (j : Nat) (L : List Rb), j ≤ n ∧ s10 = .int .i64 j ∧ ReadAt w wr F f j s7 L) (fun _ s _ => n - (intOf s).toNat)
  case atStart => exact ⟨0, [], Nat.zero_le _, rfl, ReadAt.start⟩
  case round =>
    obtain ⟨j, L, hj, rfl, hA⟩ := hrel
    have HA : Hid (ReadAt w wr F f j u7 L) := hA
    clear hA
    by_cases hlt : j < n
    · have HR : Hid (Calls Tryz.prog 83 #[.pointer (some ⟨D.d, 0, none⟩), .int .i64 ((f : Int) + j)] wr fun e w' => ∃ g cap, e = .returned (.slice (some ⟨g, 0, none⟩) 512 cap) ∧ wr.heap.size ≤ g ∧ OwnB w' g cap (bck F (f + j)) ∧ Below wr.heap.size wr w') := by
        have := wread_yes wr D (HD.out.on HA.out.bel) (f + j) (by omega) HDn.out
        rw [HF.out] at this
        exact this
      go_wp2_with (first
        | (go_at_call 83; refine HR.out.mono ?_; rintro e w1 ⟨g, cap, rfl, h1, h2, h3⟩; have H1 : Hid (wr.heap.size ≤ g ∧ OwnB w1 g cap (bck F (f + j)) ∧ Below wr.heap.size wr w1) := ⟨h1, h2, h3⟩; clear h1 h2 h3; have HB2 : Hid (Below w1.heap.size w1 (w1.alloc (.cells #[.slice (some ⟨g, 0, none⟩) 512 cap] 37))) := (Below.refl _ _).alloc (Nat.le_refl _) _)
        | (at_builtin; refine wp_sown rfl (.tmp 13) (.tmp 19) rfl u7 j (L.map Rb.v) rfl (owns_on (owns_on HA.out.row H1.out.2.2) HB2.out) ⟨w1.heap.size, 0, none⟩ 1 1 [.slice (some ⟨g, 0, none⟩) 512 cap] rfl (by omega) rfl (news1 w1 _) (fun u hu => by simp at hu; subst hu; rfl) (by omega) ?_; intro g3 cap3 w3 ho hf hg; have H3 : Hid (ReadAt w w3 F f (j + 1) (.slice (some ⟨g3, 0, none⟩) (j + 1) cap3) (L ++ [⟨g, cap, bck F (f + j)⟩])) := (HA.out.next (H1.out.2.2.trans (HB2.out.mono H1.out.2.2.size)) H1.out.1 (H1.out.2.1.on HB2.out) ho hf hg); clear ho hf hg))
      go_round
      case rel => exact ⟨j + 1, _, by omega, by go_num, H3.out⟩
      case measure => simp [intOf]; omega
    · have e : j = n := by omega
      subst e
      go_wp2
      go_ret
      exact ⟨_, _, rfl, HA.out⟩
end Go.Proofs.YtamlbpbhlgmcoaaGreatDoor

namespace Go.Proofs.YtamlbpbhlgmcoaaGreatDoor
open Go.RowKit Rec

theorem row_logD (F : List Int) (k i : Nat) (hi : i < k) : row (logD F k) i = bck F (2 + i) := by
  simp [row, logD, List.getD, hi]
theorem AD.full_length (a : AD) : a.full.length = a.las.length := by rw [AD.full_fw, fw_length]
theorem Disk.full_length {w : World} {D : Dk} (h : Disk w D) : D.full.length = 512 * D.nb := by
  rw [abs_full, AD.full_length]; exact h.lasl
/-- the data that were read, as blocks of a header -/
theorem ReadAt.data {w0 w : World} {F : List Int} {k nb : Nat} {v : Value} {L : List Rb} (h : ReadAt w0 w F 2 k v L) (hl : F.length = 512 * nb) (hn : 98 ≤ nb) (hk : k ≤ 96) (h0 : 0 < k) : ∃ g c, v = .slice (some ⟨g, 0, none⟩) k c ∧ Data w (some ⟨g, 0, none⟩) (logD F k) ∧ w0.heap.size ≤ g := by
  obtain ⟨g, c, rfl⟩ := own_some h.row h0
  refine ⟨g, c, rfl, ⟨by rw [logD_length]; omega, .inr ⟨g, 0, rfl, fun i hi => ?_⟩⟩, h.far g rfl⟩
  rw [logD_length] at hi
  have hi' : i < L.length := by rw [h.len]; exact hi
  obtain ⟨q, hq⟩ : ∃ q, L[i]? = some q := ⟨L[i], List.getElem?_eq_getElem hi'⟩
  obtain ⟨e, ho, _⟩ := h.at_ i q hq
  have hc := h.row.cells (g := g) rfl i q.v (by simp [hq])
  rw [Addr.add_lit] at hc
  refine ⟨some ⟨q.g, 0, none⟩, q.c, ?_, ?_, fun e => by cases e⟩
  · rw [row_logD F k i hi, bck_length F _ nb hl (by omega)]; exact hc
  · rw [row_logD F k i hi, ← e]; exact ho.bytes
/-- why a disk's log can't be had -/
def openE (D : Dk) : Int := if D.down then 30 else logE D.full D.nb
theorem touch_97 (D : Dk) (hd : D.down = false) : touchE D 97 = if D.nb < 98 then 31 else 0 := by
  unfold touchE
  rw [hd, if_neg (by decide)]
  by_cases c : D.nb < 98
  · rw [if_pos c, if_neg (by omega)]
  · rw [if_neg c, if_pos (by omega)]
/-- the log's numbers and data -/
structure LogAt (w0 w : World) (F : List Int) (nb : Nat) (v1 v2 : Value) (L : List Rb) : Prop where
  nums : NumsAt w0 w v1 (logN F nb)
  data : ReadAt w0 w F 2 (logN F nb).length v2 L
  bel : Below w0.heap.size w0 w
theorem NumsAt.on {w0 w w' : World} {v : Value} {l : List Int} (h : NumsAt w0 w v l) (hb : Below w.heap.size w w') : NumsAt w0 w' v l := by
  rcases h with h | ⟨g, cap, e, ho, hg⟩
  · exact .inl h
  · exact .inr ⟨g, cap, e, ho.on hb, hg⟩
theorem NumsAt.from {w0 w1 w : World} {v : Value} {l : List Int} (h : NumsAt w1 w v l) (hb : Below w0.heap.size w0 w1) : NumsAt w0 w v l := by
  rcases h with h | ⟨g, cap, e, ho, hg⟩
  · exact .inl h
  · exact .inr ⟨g, cap, e, ho, Nat.le_trans hb.size hg⟩
theorem NumsAt.form {w0 w : World} {v : Value} {l : List Int} (h : NumsAt w0 w v l) : ∃ a c, v = .slice a l.length c := by
  rcases h with ⟨rfl, rfl⟩ | ⟨g, cap, rfl, _⟩
  · exact ⟨none, 0, rfl⟩
  · exact ⟨_, _, rfl⟩
section
variable (w : World) (D : Dk) (h : Disk w D) (hT : TabAt w)
/-- the header is read -/
theorem read_head (hd : D.down = false) (hnb : 98 ≤ D.nb) (w0 : World) (hb0 : Below w.heap.size w w0) (h : Disk w D) : Calls Tryz.prog 83 #[.pointer (some ⟨D.d, 0, none⟩), .int .i64 1] w0 fun e w' => ∃ g cap, e = .returned (.slice (some ⟨g, 0, none⟩) 512 cap) ∧ OwnB w' g cap (bck D.full 1) ∧ Below w.heap.size w w' := by
  refine (wread_yes w0 D (h.on hb0) 1 (by omega) hd).mono ?_
  rintro e w' ⟨g, cap, rfl, h1, h2, h3⟩
  exact ⟨g, cap, rfl, h2, hb0.trans (h3.mono hb0.size)⟩
end
set_option maxRecDepth 100000 in
set_option maxHeartbeats 4000000 in
theorem log_yes (w : World) (D : Dk) (h : Disk w D) (hT : TabAt w) (he : openE D = 0) :
    Calls Tryz.prog 54 #[.pointer (some ⟨D.d, 0, none⟩)] w fun e w' => ∃ v1 v2 L, e = .returned (.tuple #[v1, v2]) ∧ LogAt w w' D.full D.nb v1 v2 L := by
  have hd : D.down = false := by
    cases hd : D.down with
    | false => rfl
    | true => unfold openE at he; rw [hd] at he; simp at he
  have heL : logE D.full D.nb = 0 := by unfold openE at he; rw [hd] at he; simpa using he
  have hnb : 98 ≤ D.nb := by
    by_cases c : D.nb < 98
    · unfold logE at heL; rw [if_pos c] at heL; exact absurd heL (by decide)
    · omega
  have hE : numsE (bck D.full 1) D.nb = 0 := by
    unfold logE at heL
    rw [if_neg (by omega)] at heL
    by_cases c : numsE (bck D.full 1) D.nb = 0
    · exact c
    · rw [if_neg c] at heL; exact heL
  have hG : logN D.full D.nb = [] ∨ good (bck D.full 1) D.nb (logD D.full (logN D.full D.nb).length) = true := by
    unfold logE at heL
    rw [if_neg (by omega), if_pos hE] at heL
    by_cases c : logN D.full D.nb = [] ∨ good (bck D.full 1) D.nb (logD D.full (logN D.full D.nb).length) = true
    · exact c
    · rw [if_neg c] at heL; exact absurd heL (by decide)
  have HD : Hid (∀ wx, Below w.heap.size w wx → Disk wx D ∧ TabAt wx) := fun wx hb => ⟨h.on hb, hT.on hb⟩
  have HDn : Hid (D.down = false) := hd
  have HFl : Hid (D.full.length = 512 * D.nb) := h.full_length
  have hkl := logN_len D.full D.nb
  obtain ⟨k, hk⟩ : ∃ k, (logN D.full D.nb).length = k := ⟨_, rfl⟩
  have HK : Hid ((logN D.full D.nb).length = k) := hk
  rw [hk] at hkl
  have HR1 : Hid (∀ w0, Below w.heap.size w w0 → Calls Tryz.prog 83 #[.pointer (some ⟨D.d, 0, none⟩), .int .i64 97] w0 fun e w' => ∃ v, e = .returned v ∧ Below w.heap.size w w') := fun w0 hb0 => by
    refine (wread_yes w0 D (h.on hb0) 97 (by omega) hd).mono ?_
    rintro e w' ⟨g, cap, rfl, h1, h2, h3⟩
    exact ⟨_, rfl, hb0.trans (h3.mono hb0.size)⟩
  have HR2 : Hid (∀ w0, Below w.heap.size w w0 → Calls Tryz.prog 83 #[.pointer (some ⟨D.d, 0, none⟩), .int .i64 1] w0 fun e w' => ∃ g cap, e = .returned (.slice (some ⟨g, 0, none⟩) 512 cap) ∧ OwnB w' g cap (bck D.full 1) ∧ Below w.heap.size w w') := fun w0 hb0 => read_head w D hd hnb w0 hb0 h
  have HN : Hid (∀ w0 g cap, Below w.heap.size w w0 → OwnB w0 g cap (bck D.full 1) → Calls Tryz.prog 84 #[.slice (some ⟨g, 0, none⟩) 512 cap, .int .i64 D.nb] w0 fun e w' => ∃ a c, e = .returned (.tuple #[.slice a k c, .int .i64 0]) ∧ NumsAt w w' (.slice a k c) (logN D.full D.nb) ∧ OwnB w' g cap (bck D.full 1) ∧ Below w.heap.size w w') := fun w0 g cap hb0 ho => by
    refine (nums_any w0 (some ⟨g, 0, none⟩) 512 cap _ D.nb (bck_length _ _ _ HFl.out (by omega)) ho.bytes (by have := ho.room; rw [bck_length _ _ _ HFl.out (by omega)] at this; exact this) (hT.on hb0)).mono ?_
    rintro e w' ⟨v, rfl, hv, hb⟩
    obtain ⟨a, c, rfl⟩ := hv.form
    have hkk : (numsL (bck D.full 1) D.nb).length = k := hk
    rw [hkk] at hv ⊢
    exact ⟨a, c, by rw [hE], hv.from hb0, ho.on hb, hb0.trans (hb.mono hb0.size)⟩
  have HF : Hid (∀ w0, Below w.heap.size w w0 → Calls Tryz.prog 57 #[.pointer (some ⟨D.d, 0, none⟩), .int .i64 2, .int .i64 k] w0 fun e w' => ∃ a c L, e = .returned (.slice a k c) ∧ ReadAt w w' D.full 2 k (.slice a k c) L ∧ Below w0.heap.size w0 w') := fun w0 hb0 => by
    refine (readFrom_any w0 D (h.on hb0) hd 2 k (by omega)).mono ?_
    rintro e w' ⟨v, L, rfl, hr⟩
    obtain ⟨a, c, rfl⟩ := own_form hr.row
    exact ⟨a, c, L, rfl, hr.from hb0, hr.bel⟩
  have HG : Hid (0 < k → ∀ w0 g cap a c L, Below w.heap.size w w0 → OwnB w0 g cap (bck D.full 1) → ReadAt w w0 D.full 2 k (.slice a k c) L → Calls Tryz.prog 86 #[.slice (some ⟨g, 0, none⟩) 512 cap, .int .i64 D.nb, .slice a k c] w0 fun e w' => e = .returned (.bool true) ∧ Below w0.heap.size w0 w') := fun h0 w0 g cap a c L hb0 ho hr => by
    obtain ⟨g2, c2, e, hd2, _⟩ := hr.data HFl.out hnb hkl h0
    cases e
    have hg : good (bck D.full 1) D.nb (logD D.full k) = true := by
      rcases hG with e | e
      · rw [e] at hk; simp at hk; omega
      · rw [hk] at e; exact e
    refine (good_any w0 (some ⟨g, 0, none⟩) (some ⟨g2, 0, none⟩) 512 cap k c _ (logD D.full k) D.nb (bck_length _ _ _ HFl.out (by omega)) (logD_length _ _) ho.bytes (by have := ho.room; rw [bck_length _ _ _ HFl.out (by omega)] at this; exact this) hd2 (hT.on hb0)).mono ?_
    rintro e w' ⟨rfl, hb⟩
    exact ⟨by rw [hg], hb⟩
  clear h hT he hd heL hE hG hk HDn HFl
  have hB0 : Hid (Below w.heap.size w w) := Below.refl _ _
  by_cases hz : k = 0
  · have hz' : ((k : Int) == 0) = true := by simp [hz]
    have HZ : Hid (k = 0) := hz
    clear hz
    go_enter Tryz.func54, Tryz.ntmps54
    go_wp2_with (first
      | (go_at_call 83; refine (HR1.out _ hB0.out).mono ?_; rintro e w1 ⟨v, rfl, hb⟩; have H1 : Hid (Below w.heap.size w w1) := hb; clear hb HR1)
      | (go_at_call 83; have hh := H1.out; clear hh; refine (HR2.out _ H1.out).mono ?_; rintro e w2 ⟨g, cap, rfl, ho, hb⟩; have H2 : Hid (OwnB w2 g cap (bck D.full 1) ∧ Below w.heap.size w w2) := ⟨ho, hb⟩; clear ho hb)
      | (go_at_call 44; have hh := H2.out; clear hh; refine (blocks_any _ D (HD.out _ H2.out.2).1).mono ?_; rintro e w' ⟨rfl, rfl⟩)
      | (go_at_call 84; refine (HN.out _ _ _ H2.out.2 H2.out.1).mono ?_; rintro e w3 ⟨a, c, rfl, hn, ho, hb⟩; have H3 : Hid (NumsAt w w3 (.slice a k c) (logN D.full D.nb) ∧ OwnB w3 g cap (bck D.full 1) ∧ Below w.heap.size w w3) := ⟨hn, ho, hb⟩; clear hn ho hb)
      | (go_at_call 57; refine (HF.out _ H3.out.2.2).mono ?_; rintro e w4 ⟨a4, c4, L, rfl, hr, hb⟩; have H4 : Hid (ReadAt w w4 D.full 2 k (.slice a4 k c4) L ∧ Below w3.heap.size w3 w4) := ⟨hr, hb⟩; clear hr hb)
      | (go_at_call 85; refine (must_yes _ _).mono ?_; rintro e w' ⟨rfl, rfl⟩))
    go_ret2
    exact ⟨_, _, L, rfl, H3.out.1.on H4.out.2, by rw [HK.out]; exact H4.out.1, H4.out.1.bel⟩
  · have hz' : ((k : Int) == 0) = false := by simp [hz]
    replace HG := HG.out (by omega)
    replace HG : Hid _ := HG
    clear hz
    go_enter Tryz.func54, Tryz.ntmps54
    go_wp2_with (first
      | (go_at_call 83; refine (HR1.out _ hB0.out).mono ?_; rintro e w1 ⟨v, rfl, hb⟩; have H1 : Hid (Below w.heap.size w w1) := hb; clear hb HR1)
      | (go_at_call 83; have hh := H1.out; clear hh; refine (HR2.out _ H1.out).mono ?_; rintro e w2 ⟨g, cap, rfl, ho, hb⟩; have H2 : Hid (OwnB w2 g cap (bck D.full 1) ∧ Below w.heap.size w w2) := ⟨ho, hb⟩; clear ho hb)
      | (go_at_call 44; have hh := H2.out; clear hh; refine (blocks_any _ D (HD.out _ H2.out.2).1).mono ?_; rintro e w' ⟨rfl, rfl⟩)
      | (go_at_call 84; refine (HN.out _ _ _ H2.out.2 H2.out.1).mono ?_; rintro e w3 ⟨a, c, rfl, hn, ho, hb⟩; have H3 : Hid (NumsAt w w3 (.slice a k c) (logN D.full D.nb) ∧ OwnB w3 g cap (bck D.full 1) ∧ Below w.heap.size w w3) := ⟨hn, ho, hb⟩; clear hn ho hb)
      | (go_at_call 57; refine (HF.out _ H3.out.2.2).mono ?_; rintro e w4 ⟨a4, c4, L, rfl, hr, hb⟩; have H4 : Hid (ReadAt w w4 D.full 2 k (.slice a4 k c4) L ∧ Below w3.heap.size w3 w4) := ⟨hr, hb⟩; clear hr hb)
      | (go_at_call 44; have hh := H4.out; clear hh; refine (blocks_any _ D (HD.out _ H4.out.1.bel).1).mono ?_; rintro e w' ⟨rfl, rfl⟩)
      | (go_at_call 86; refine (HG.out _ _ _ _ _ _ H4.out.1.bel (H3.out.2.1.on H4.out.2) H4.out.1).mono ?_; rintro e w5 ⟨rfl, hb⟩; have H5 : Hid (Below w4.heap.size w4 w5) := hb; clear hb)
      | (go_at_call 85; refine (must_yes _ _).mono ?_; rintro e w' ⟨rfl, rfl⟩))
    go_ret2
    exact ⟨_, _, L, rfl, (H3.out.1.on H4.out.2).on H5.out, by rw [HK.out]; exact H4.out.1.on H5.out, (H4.out.1.on H5.out).bel⟩
end Go.Proofs.YtamlbpbhlgmcoaaGreatDoor

import Derived.Test.YtflienghgobmoaaGreatDoorKWSw
import Derived.Test.YtflienghgobmoaaGreatDoorKWalC
namespace Go.Proofs.YtflienghgobmoaaGreatDoor
open Go.RowKit Rec

/-- a block that is handed in: its number, where its bytes lie, its bytes -/
structure Bk where
  n : Int
  g : Nat
  c : Nat
  x : List Int
def Bk.v (q : Bk) : Value := .slice (some ⟨q.g, 0, none⟩) 512 q.c
def nsB (L : List Bk) : List Int := L.map Bk.n
def dsB (L : List Bk) : List (List Int) := L.map Bk.x
structure BlocksAt (w : World) (b : Nat) (L : List Bk) : Prop where
  at_ : ∀ (i : Nat) (q : Bk), L[i]? = some q → w.cell? ⟨b, i * 2, none⟩ = some (.int .i64 q.n) ∧ w.cell? ⟨b, i * 2 + 1, none⟩ = some q.v ∧ BlkAt w q.g q.x
theorem BlocksAt.on {w w' : World} {b : Nat} {L : List Bk} (h : BlocksAt w b L) (x : Below w.heap.size w w') : BlocksAt w' b L :=
  ⟨fun i q hq => by
    obtain ⟨h1, h2, h3⟩ := h.at_ i q hq
    exact ⟨(x.cell (block_lt_of_cell h1)).trans h1, (x.cell (block_lt_of_cell h2)).trans h2, h3.on x⟩⟩
structure ApAt (w0 wr : World) (L : List Bk) (j : Nat) (s2 s3 : Value) : Prop where
  nums : wr.ownsRow 0 3 1 s2 j ((nsB (L.take j)).map (Value.int .i64))
  rows : wr.ownsRow 0 22 1 s3 j ((L.take j).map Bk.v)
  far2 : ∀ k, s2.ownBlock = some k → w0.heap.size ≤ k
  far3 : ∀ k, s3.ownBlock = some k → w0.heap.size ≤ k
  bel : Below w0.heap.size w0 wr
theorem ApAt.on {w0 wr w' : World} {L : List Bk} {j : Nat} {s2 s3 : Value} (h : ApAt w0 wr L j s2 s3) (hb : Below wr.heap.size wr w') : ApAt w0 w' L j s2 s3 :=
  ⟨owns_on h.nums hb, owns_on h.rows hb, h.far2, h.far3, h.bel.trans (hb.mono h.bel.size)⟩
theorem ApAt.start {w0 : World} {L : List Bk} : ApAt w0 w0 L 0 (.slice none 0 0) (.slice none 0 0) :=
  ⟨⟨rfl, .inl ⟨rfl, rfl⟩⟩, ⟨rfl, .inl ⟨rfl, rfl⟩⟩, (fun k h => by cases h), (fun k h => by cases h), Below.refl _ _⟩
structure ApMid (w0 wr : World) (L : List Bk) (j : Nat) (s2 s3 : Value) : Prop where
  nums : wr.ownsRow 0 3 1 s2 (j + 1) ((nsB (L.take (j + 1))).map (Value.int .i64))
  rows : wr.ownsRow 0 22 1 s3 j ((L.take j).map Bk.v)
  far2 : ∀ k, s2.ownBlock = some k → w0.heap.size ≤ k
  far3 : ∀ k, s3.ownBlock = some k → w0.heap.size ≤ k
  bel : Below w0.heap.size w0 wr
theorem ApMid.on {w0 wr w' : World} {L : List Bk} {j : Nat} {s2 s3 : Value} (h : ApMid w0 wr L j s2 s3) (hb : Below wr.heap.size wr w') : ApMid w0 w' L j s2 s3 :=
  ⟨owns_on h.nums hb, owns_on h.rows hb, h.far2, h.far3, h.bel.trans (hb.mono h.bel.size)⟩
theorem take_bk {L : List Bk} {j : Nat} {q : Bk} (hq : L[j]? = some q) : L.take (j + 1) = L.take j ++ [q] := by rw [List.take_add_one, hq]; rfl
theorem ApAt.mid {w0 wr w' : World} {L : List Bk} {j g cap : Nat} {s2 s3 : Value} {q : Bk} (h : ApAt w0 wr L j s2 s3) (hq : L[j]? = some q) (ho : w'.ownsRow 0 3 1 (.slice (some ⟨g, 0, none⟩) (j + 1) cap) (j + 1) ((nsB (L.take j) ++ [q.n]).map (Value.int .i64))) (hf : Fr (fun k => s2.ownBlock = some k) wr w') (hg : s2.ownBlock = some g ∨ wr.heap.size ≤ g) :
    ApMid w0 w' L j (.slice (some ⟨g, 0, none⟩) (j + 1) cap) s3 := by
  refine ⟨?_, owns_fr h.rows hf (fun k hk => own_apart h.rows h.nums (by decide) k hk), fun k hk => ?_, h.far3, h.bel.trans (hf.below _ h.far2 h.bel.size)⟩
  · rw [take_bk hq]; unfold nsB at ho ⊢; simpa using ho
  · cases hk
    rcases hg with e | e
    · exact h.far2 _ e
    · exact Nat.le_trans h.bel.size e
theorem ApMid.next {w0 wr w' : World} {L : List Bk} {j g cap : Nat} {s2 s3 : Value} {q : Bk} (h : ApMid w0 wr L j s2 s3) (hq : L[j]? = some q) (ho : w'.ownsRow 0 22 1 (.slice (some ⟨g, 0, none⟩) (j + 1) cap) (j + 1) ((L.take j).map Bk.v ++ [.slice (some ⟨q.g, 0, none⟩) 512 q.c])) (hf : Fr (fun k => s3.ownBlock = some k) wr w') (hg : s3.ownBlock = some g ∨ wr.heap.size ≤ g) :
    ApAt w0 w' L (j + 1) s2 (.slice (some ⟨g, 0, none⟩) (j + 1) cap) := by
  refine ⟨owns_fr h.nums hf (fun k hk => own_apart h.nums h.rows (by decide) k hk), ?_, h.far2, fun k hk => ?_, h.bel.trans (hf.below _ h.far3 h.bel.size)⟩
  · rw [take_bk hq, List.map_append]; exact ho
  · cases hk
    rcases hg with e | e
    · exact h.far3 _ e
    · exact Nat.le_trans h.bel.size e
set_option maxRecDepth 100000 in
set_option maxHeartbeats 4000000 in
theorem apart_any (w : World) (b n c : Nat) (L : List Bk) (hL : BlocksAt w b L) (hn : L.length = n) (h0 : 0 < n) (hl : n ≤ 1000000) :
    Calls Tryz.prog 118 #[.slice (some ⟨b, 0, none⟩) n c] w fun e w' => ∃ s2 s3, e = .returned (.tuple #[s2, s3]) ∧ ApAt w w' L n s2 s3 := by
  have HL : Hid (BlocksAt w b L) := hL
  have HN : Hid (L.length = n) := hn
  clear hL hn
  go_enter Tryz.func118, Tryz.ntmps118
  go_wp2
  go_loopw [2, 3, 8] (fun s2 s3 s8 wr => ∃ j : Nat, j ≤ n ∧ s8 = .int .i64 j ∧ ApAt w wr L j s2 s3) (fun _ _ s8 _ => n - (intOf s8).toNat)
  case atStart => exact ⟨0, Nat.zero_le _, rfl, ApAt.start⟩
  case round =>
    obtain ⟨j, hj, rfl, hA⟩ := hrel
    have HA : Hid (ApAt w wr L j u2 u3) := hA
    clear hA
    by_cases hlt : j < n
    · obtain ⟨q, hq⟩ : ∃ q, L[j]? = some q := ⟨L[j]'(by rw [HN.out]; exact hlt), List.getElem?_eq_getElem _⟩
      obtain ⟨c1, c2, c3⟩ := (HL.out.on HA.out.bel).at_ j q hq
      have c2' : wr.cell? ⟨b, j * 2 + 1, none⟩ = some (.slice (some ⟨q.g, 0, none⟩) 512 q.c) := c2
      obtain ⟨w1, hw1⟩ : ∃ w1, w1 = wr.alloc (.cells #[.int .i64 q.n, .slice (some ⟨q.g, 0, none⟩) 512 q.c] 141) := ⟨_, rfl⟩
      obtain ⟨b1, r1⟩ := rows1 wr #[.int .i64 q.n, .slice (some ⟨q.g, 0, none⟩) 512 q.c] 141
      rw [← hw1] at b1 r1
      have HA1 : Hid (ApAt w w1 L j u2 u3) := HA.out.on b1
      have HR1 : Hid (w1.heap[wr.heap.size]? = some (.cells #[.int .i64 q.n, .slice (some ⟨q.g, 0, none⟩) 512 q.c] 141 (0, 0))) := r1
      have HQ : Hid (L[j]? = some q) := hq
      clear c2 c3 hq
      go_upto_region 4 with fail
      rw [← hw1]
      clear hw1 c1 c2'
      have d1 : w1.cell? ⟨wr.heap.size, 0, none⟩ = some (.int .i64 q.n) := by rw [cell_of_row _ _ _ _ _ _ r1]; rfl
      clear r1 b1
      have HB1 : Hid (Below w1.heap.size w1 (w1.alloc (.cells #[.int .i64 q.n] 3))) := (Below.refl _ _).alloc (Nat.le_refl _) _
      have HN2 : Hid (∀ m, m < [q.n].length → (w1.alloc (.cells #[.int .i64 q.n] 3)).cell? ((⟨w1.heap.size, 0, none⟩ : Addr).add m) = some (.int .i64 (nth [q.n] m))) := fun m hm => by
        have : m = 0 := by simpa using hm
        subst this
        rw [Addr.add_lit, cell_of_row _ _ _ _ _ _ (heap_alloc_new _ _)]; rfl
      go_upto_region 5 with (at_builtin; refine wp_iown rfl (.tmp 12) (.tmp 15) rfl u2 j (nsB (L.take j)) rfl (HA1.out.on HB1.out).nums ⟨w1.heap.size, 0, none⟩ 1 1 [q.n] rfl (by omega) rfl HN2.out (by omega) ?_; intro g2 cap2 w2 ho hf hg; have H2 : Hid (ApMid w w2 L j (.slice (some ⟨g2, 0, none⟩) (j + 1) cap2) u3 ∧ w2.heap[wr.heap.size]? = some (.cells #[.int .i64 q.n, .slice (some ⟨q.g, 0, none⟩) 512 q.c] 141 (0, 0))) := ⟨(HA1.out.on HB1.out).mid HQ.out ho hf hg, hf.heap ((HB1.out.block _ (heap_lt HR1.out)).trans HR1.out) (own_apartR (HA1.out.on HB1.out).nums ((HB1.out.block _ (heap_lt HR1.out)).trans HR1.out) (by decide))⟩; clear ho hf hg)
      have d2 : w2.cell? ⟨wr.heap.size, 1, none⟩ = some (.slice (some ⟨q.g, 0, none⟩) 512 q.c) := by rw [cell_of_row _ _ _ _ _ _ H2.out.2]; rfl
      clear d1
      have HB2 : Hid (Below w2.heap.size w2 (w2.alloc (.cells #[.slice (some ⟨q.g, 0, none⟩) 512 q.c] 22))) := (Below.refl _ _).alloc (Nat.le_refl _) _
      go_wp2_with (at_builtin; refine wp_sown rfl (.tmp 17) (.tmp 20) rfl u3 j ((L.take j).map Bk.v) rfl (H2.out.1.on HB2.out).rows ⟨w2.heap.size, 0, none⟩ 1 1 [.slice (some ⟨q.g, 0, none⟩) 512 q.c] rfl (by omega) rfl (news1 w2 _) (fun u hu => by simp at hu; subst hu; rfl) (by omega) ?_; intro g3 cap3 w3 ho hf hg; have H3 : Hid (ApAt w w3 L (j + 1) (.slice (some ⟨g2, 0, none⟩) (j + 1) cap2) (.slice (some ⟨g3, 0, none⟩) (j + 1) cap3)) := (H2.out.1.on HB2.out).next HQ.out ho hf hg; clear ho hf hg)
      go_round
      case rel => exact ⟨j + 1, by omega, by go_num, H3.out⟩
      case measure => simp [intOf]; omega
    · have e : j = n := by omega
      subst e
      go_wp2
      go_ret2
      exact ⟨_, _, rfl, HA.out⟩
end Go.Proofs.YtflienghgobmoaaGreatDoor

namespace Go.Proofs.YtflienghgobmoaaGreatDoor
open Go.RowKit Rec

/-- steps that are being laid; what they lie in is new (from B on), the disk is not -/
structure Stp (B : Nat) (w : World) (D : Dk) (p : Nat) (acts : List WA) : Prop where
  at_ : ∃ v fs, StepsAt w D p v fs acts ∧ ∀ k, v.ownBlock = some k → B ≤ k
  p : B ≤ p
  b : B ≤ w.heap.size
  d : ∀ k, D.has k → k < B
theorem Stp.on {B : Nat} {w w' : World} {D : Dk} {p : Nat} {acts : List WA} (h : Stp B w D p acts) (hb : Below w.heap.size w w') : Stp B w' D p acts := by
  obtain ⟨v, fs, h1, h2⟩ := h.at_
  exact ⟨⟨v, fs, h1.on hb, h2⟩, h.p, Nat.le_trans h.b hb.size, h.d⟩
theorem stp_write (B : Nat) (w : World) (D : Dk) (p : Nat) (acts : List WA) (h : Stp B w D p acts) (i g c : Nat) (x : List Int) (hx : BlkAt w g x) (hg : ¬ D.has g) (hi : i < D.nb) (hl : acts.length + 1 ≤ 1000000) :
    Calls Tryz.prog 120 #[.pointer (some ⟨p, 0, none⟩), .int .i64 i, .slice (some ⟨g, 0, none⟩) 512 c] w fun e w' => e = .returned (.tuple #[]) ∧ Stp B w' D p (acts ++ [some (i, x)]) ∧ Below B w w' := by
  obtain ⟨v, fs, h1, h2⟩ := h.at_
  refine (swrite_any B w D h.d p v fs acts h1 h.p h2 h.b i g c x hx hg hi hl).mono ?_
  rintro e w' ⟨rfl, v', f, x1, x2, x3⟩
  exact ⟨rfl, ⟨⟨v', _, x1, x2⟩, h.p, Nat.le_trans h.b x3.size, h.d⟩, x3⟩
theorem stp_flush (B : Nat) (w : World) (D : Dk) (p : Nat) (acts : List WA) (h : Stp B w D p acts) (hl : acts.length + 1 ≤ 1000000) :
    Calls Tryz.prog 121 #[.pointer (some ⟨p, 0, none⟩)] w fun e w' => e = .returned (.tuple #[]) ∧ Stp B w' D p (acts ++ [none]) ∧ Below B w w' := by
  obtain ⟨v, fs, h1, h2⟩ := h.at_
  refine (sflush_any B w D h.d p v fs acts h1 h.p h2 h.b hl).mono ?_
  rintro e w' ⟨rfl, v', f, x1, x2, x3⟩
  exact ⟨rfl, ⟨⟨v', _, x1, x2⟩, h.p, Nat.le_trans h.b x3.size, h.d⟩, x3⟩
set_option maxRecDepth 100000 in
set_option maxHeartbeats 1600000 in
theorem stp_header (B : Nat) (w : World) (D : Dk) (p : Nat) (acts : List WA) (h : Stp B w D p acts) (g c : Nat) (x : List Int) (hx : BlkAt w g x) (hg : ¬ D.has g) (hi : 1 < D.nb) (hl : acts.length + 2 ≤ 1000000) :
    Calls Tryz.prog 122 #[.pointer (some ⟨p, 0, none⟩), .slice (some ⟨g, 0, none⟩) 512 c] w fun e w' => e = .returned (.tuple #[]) ∧ Stp B w' D p (acts ++ [some (1, x), none]) ∧ Below B w w' := by
  have HW : Hid (Calls Tryz.prog 120 #[.pointer (some ⟨p, 0, none⟩), .int .i64 1, .slice (some ⟨g, 0, none⟩) 512 c] w fun e w' => e = .returned (.tuple #[]) ∧ Stp B w' D p (acts ++ [some (1, x)]) ∧ Below B w w') := stp_write B w D p acts h 1 g c x hx hg hi (by omega)
  have HF : Hid (∀ w', Stp B w' D p (acts ++ [some (1, x)]) → Calls Tryz.prog 121 #[.pointer (some ⟨p, 0, none⟩)] w' fun e w'' => e = .returned (.tuple #[]) ∧ Stp B w'' D p (acts ++ [some (1, x), none]) ∧ Below B w' w'') := fun w' h' => by
    have := stp_flush B w' D p _ h' (by rw [List.length_append]; simp; omega)
    rwa [List.append_assoc] at this
  clear h hx hg
  go_enter Tryz.func122, Tryz.ntmps122
  go_wp2_with (first
    | (go_at_call 120; refine HW.out.mono ?_; rintro e w1 ⟨rfl, h1, b1⟩; have H1 : Hid (Stp B w1 D p (acts ++ [some (1, x)]) ∧ Below B w w1) := ⟨h1, b1⟩; clear h1 b1)
    | (go_at_call 121; refine (HF.out _ H1.out.1).mono ?_; rintro e w2 ⟨rfl, h1, b1⟩; have H2 : Hid (Stp B w2 D p (acts ++ [some (1, x), none]) ∧ Below B w w2) := ⟨h1, H1.out.2.trans b1⟩; clear h1 b1))
  go_end0
  exact ⟨rfl, H2.out⟩
/-- numbers and blocks in rows -/
structure Lists (w : World) (D : Dk) (a da k : Nat) (ns : List Int) (ds : List (List Int)) : Prop where
  nums : ∀ i, i < k → w.cell? ⟨a, i, none⟩ = some (.int .i64 (nth ns i)) ∧ 0 ≤ nth ns i ∧ nth ns i < D.nb
  rows : ∀ i, i < k → ∃ g c, w.cell? ⟨da, i, none⟩ = some (.slice (some ⟨g, 0, none⟩) 512 c) ∧ BlkAt w g (row ds i) ∧ ¬ D.has g
  nl : ns.length = k
  dl : ds.length = k
theorem Lists.on {w w' : World} {D : Dk} {a da k : Nat} {ns : List Int} {ds : List (List Int)} (h : Lists w D a da k ns ds) (x : Below w.heap.size w w') : Lists w' D a da k ns ds :=
  ⟨fun i hi => by obtain ⟨h1, h2⟩ := h.nums i hi; exact ⟨(x.cell (block_lt_of_cell h1)).trans h1, h2⟩, fun i hi => by obtain ⟨g, c, h1, h2, h3⟩ := h.rows i hi; exact ⟨g, c, (x.cell (block_lt_of_cell h1)).trans h1, h2.on x, h3⟩, h.nl, h.dl⟩
set_option maxRecDepth 100000 in
set_option maxHeartbeats 4000000 in
theorem home_any (B : Nat) (w : World) (D : Dk) (p : Nat) (acts : List WA) (h : Stp B w D p acts) (a nc da dc k : Nat) (ns : List Int) (ds : List (List Int)) (hL : ∀ wx, Below B w wx → Lists wx D a da k ns ds) (h98 : 1 < D.nb) (hl : acts.length + k + 3 ≤ 1000000) :
    Calls Tryz.prog 123 #[.pointer (some ⟨p, 0, none⟩), .slice (some ⟨a, 0, none⟩) k nc, .slice (some ⟨da, 0, none⟩) k dc] w fun e w' => e = .returned (.tuple #[]) ∧ Stp B w' D p (acts ++ homeA (homes ns ds)) ∧ Below B w w' := by
  have HL : Hid (∀ wx, Below B w wx → Lists wx D a da k ns ds) := hL
  have HHl : Hid ((homes ns ds).length = k) := by
    have := hL w (Below.refl _ _)
    show _ = _
    rw [homes_length ns ds (by rw [this.nl, this.dl]), this.nl]
  have H0 : Hid (Stp B w D p (acts ++ ((homes ns ds).take 0).map some)) := by
    show Stp B w D p (acts ++ ((homes ns ds).take 0).map some)
    simpa using h
  clear hL h
  go_enter Tryz.func123, Tryz.ntmps123
  go_wp2
  go_loopw [10] (fun s wr => ∃ j : Nat, j ≤ k ∧ s = .int .i64 j ∧ Stp B wr D p (acts ++ ((homes ns ds).take j).map some) ∧ Below B w wr) (fun s _ => k - (intOf s).toNat)
  case atStart => exact ⟨0, Nat.zero_le _, rfl, H0.out, Below.refl _ _⟩
  case round =>
    obtain ⟨j, hj, rfl, hs, hb⟩ := hrel
    have HS : Hid (Stp B wr D p (acts ++ ((homes ns ds).take j).map some) ∧ Below B w wr) := ⟨hs, hb⟩
    clear hs hb
    by_cases hlt : j < k
    · obtain ⟨n1, n2, n3⟩ := (HL.out _ HS.out.2).nums j hlt
      obtain ⟨g, c, r1, r2, r3⟩ := (HL.out _ HS.out.2).rows j hlt
      obtain ⟨m, hm⟩ : ∃ m : Nat, nth ns j = (m : Int) := ⟨(nth ns j).toNat, by omega⟩
      have HT : Hid ((homes ns ds).take (j + 1) = (homes ns ds).take j ++ [(m, row ds j)]) := by
        show _ = _
        rw [List.take_add_one, List.getElem?_eq_getElem (by rw [HHl.out]; exact hlt), homes_get, hm]; rfl
      have HW : Hid (Calls Tryz.prog 120 #[.pointer (some ⟨p, 0, none⟩), .int .i64 m, .slice (some ⟨g, 0, none⟩) 512 c] wr fun e w' => e = .returned (.tuple #[]) ∧ Stp B w' D p (acts ++ ((homes ns ds).take (j + 1)).map some) ∧ Below B w w') := by
        refine (stp_write B wr D p _ HS.out.1 m g c _ r2 r3 (by omega) (by rw [List.length_append, List.length_map, List.length_take]; omega)).mono ?_
        rintro e w' ⟨rfl, x1, x2⟩
        refine ⟨rfl, ?_, HS.out.2.trans x2⟩
        rw [HT.out, List.map_append, ← List.append_assoc]
        exact x1
      rw [hm] at n1
      clear n2 n3 r2 r3 hm HT
      go_wp2_with (go_at_call 120; refine HW.out.mono ?_; rintro e w1 ⟨rfl, h1, b1⟩; have H1 : Hid (Stp B w1 D p (acts ++ ((homes ns ds).take (j + 1)).map some) ∧ Below B w w1) := ⟨h1, b1⟩; clear h1 b1)
      go_round
      case rel => exact ⟨j + 1, by omega, by go_num, H1.out⟩
      case measure => simp [intOf]; omega
    · have e : j = k := by omega
      have HS2 : Hid (Stp B wr D p (acts ++ (homes ns ds).map some) ∧ Below B w wr) := by
        have := HS.out
        rw [e, ← HHl.out, List.take_length] at this
        exact this
      have hl2 : (acts ++ (homes ns ds).map some).length + 3 ≤ 1000000 := by rw [List.length_append, List.length_map, HHl.out]; omega
      have HF : Hid (Calls Tryz.prog 121 #[.pointer (some ⟨p, 0, none⟩)] wr fun e w' => e = .returned (.tuple #[]) ∧ Stp B w' D p ((acts ++ (homes ns ds).map some) ++ [none]) ∧ Below B wr w') := stp_flush B wr D p _ HS2.out.1 (by omega)
      have HH : Hid (∀ w' g c, Stp B w' D p ((acts ++ (homes ns ds).map some) ++ [none]) → BlkAt w' g zs → B ≤ g → Calls Tryz.prog 122 #[.pointer (some ⟨p, 0, none⟩), .slice (some ⟨g, 0, none⟩) 512 c] w' fun e w'' => e = .returned (.tuple #[]) ∧ Stp B w'' D p (acts ++ homeA (homes ns ds)) ∧ Below B w' w'') := fun w' g c h1 h2 h3 => by
        have := stp_header B w' D p _ h1 g c zs h2 (fun e => by have := h1.d _ e; omega) h98 (by rw [List.length_append]; simp; simp at hl2; omega)
        have e : acts ++ (homes ns ds).map some ++ [none] ++ [some (1, zs), none] = acts ++ homeA (homes ns ds) := by unfold homeA; simp only [List.append_assoc, List.singleton_append]
        rwa [e] at this
      clear hl2 HS
      go_wp2_with (first
        | (go_at_call 121; refine HF.out.mono ?_; rintro e w1 ⟨rfl, h1, b1⟩; have H1 : Hid (Stp B w1 D p ((acts ++ (homes ns ds).map some) ++ [none]) ∧ Below B w w1) := ⟨h1, HS2.out.2.trans b1⟩; clear h1 b1)
        | (go_at_call 156; refine (empty_any _).mono ?_; rintro e w2 ⟨g, rfl, ho, hg, hb⟩; have H2 : Hid (Stp B w2 D p ((acts ++ (homes ns ds).map some) ++ [none]) ∧ Below B w w2 ∧ BlkAt w2 g zs ∧ B ≤ g) := ⟨H1.out.1.on hb, H1.out.2.trans (hb.mono H1.out.1.b), BlkAt.of ho zs_length, Nat.le_trans H1.out.1.b hg⟩; clear ho hg hb)
        | (go_at_call 122; refine (HH.out _ _ _ H2.out.1 H2.out.2.2.1 H2.out.2.2.2).mono ?_; rintro e w3 ⟨rfl, h1, b1⟩; have H3 : Hid (Stp B w3 D p (acts ++ homeA (homes ns ds)) ∧ Below B w w3) := ⟨h1, H2.out.2.1.trans b1⟩; clear h1 b1))
      go_end0
      exact ⟨rfl, H3.out⟩
end Go.Proofs.YtflienghgobmoaaGreatDoor

namespace Go.Proofs.YtflienghgobmoaaGreatDoor
open Go.RowKit Rec

theorem ComOk.may16 {nb : Nat} {ns : List Int} {ds : List (List Int)} (h : ComOk nb ns ds) : may ns 16384 = true :=
  may_mono ns nb 16384 h.ris (fun i hi => by have := pre_bd ns nb h.ris i hi; have := h.n16; omega)
theorem ComOk.make {nb : Nat} {ns : List Int} {ds : List (List Int)} (h : ComOk nb ns ds) : makeE ns ds = 0 := by
  unfold makeE
  rw [if_pos ⟨⟨h.lo, h.hi⟩, h.may16⟩, if_pos]
  unfold blk
  rw [Bool.and_eq_true, decide_eq_true_eq, decide_eq_true_eq]
  exact ⟨h.dl, h.bl⟩
set_option maxRecDepth 100000 in
set_option maxHeartbeats 1600000 in
theorem header_ok (w : World) (nb a nc da dc k : Nat) (ns : List Int) (ds : List (List Int)) (ok : ComOk nb ns ds) (hk : ns.length = k) (hI : Ints w (some ⟨a, 0, none⟩) ns) (hD : Data w (some ⟨da, 0, none⟩) ds) (hT : TabAt w) :
    Calls Tryz.prog 119 #[.int .i64 nb, .slice (some ⟨a, 0, none⟩) k nc, .slice (some ⟨da, 0, none⟩) k dc] w fun e w' => ∃ g, e = .returned (.tuple #[.slice (some ⟨g, 0, none⟩) 512 512, .int .i64 0]) ∧ OwnB w' g 512 (made ns ds) ∧ w.heap.size ≤ g ∧ Below w.heap.size w w' := by
  have h1 := ok.lo
  have h2 := ok.hi
  rw [hk] at h1 h2
  obtain ⟨m, rfl⟩ : ∃ m, k = m + 1 := ⟨k - 1, by omega⟩
  have hc : w.cell? ⟨a, m, none⟩ = some (.int .i64 (nth ns m)) := by have := hI.cell (i := m) (by omega); rwa [Nat.zero_add] at this
  have hb := (pre_bd ns nb ok.ris m (by omega)).2
  have hlt : ¬ (nb : Int) ≤ nth ns m := by omega
  obtain ⟨V, hV⟩ : ∃ V, nth ns m = V := ⟨_, rfl⟩
  rw [hV] at hc hlt
  have hm1 : ((m + 1 : Nat) : Int) - 1 = (m : Int) := by omega
  have HM : Hid (Calls Tryz.prog 151 #[.slice (some ⟨a, 0, none⟩) (m + 1) nc, .slice (some ⟨da, 0, none⟩) (m + 1) dc] w fun e w' => ∃ g, e = .returned (.tuple #[.slice (some ⟨g, 0, none⟩) 512 512, .int .i64 0]) ∧ OwnB w' g 512 (made ns ds) ∧ w.heap.size ≤ g ∧ Below w.heap.size w w') := by
    refine (make_any w _ _ (m + 1) nc (m + 1) dc ns ds hk (by rw [ok.dl, hk]) hI hD hT).mono ?_
    rintro e w' ⟨v, rfl, hv, hb⟩
    rcases hv with ⟨h, _⟩ | ⟨h, g, rfl, ho, hg⟩
    · exact absurd ok.make h
    · exact ⟨g, by rw [h], ho, hg, hb⟩
  clear hI hD hT hb hV ok hk
  go_enter Tryz.func119, Tryz.ntmps119
  go_wp2_with (go_at_call 151; refine HM.out.mono ?_; rintro e w1 ⟨g, rfl, ho, hg, hb⟩; have H1 : Hid (OwnB w1 g 512 (made ns ds) ∧ w.heap.size ≤ g ∧ Below w.heap.size w w1) := ⟨ho, hg, hb⟩; clear ho hg hb)
  go_ret2
  exact ⟨g, rfl, H1.out⟩
theorem nth_nsB (L : List Bk) (i : Nat) (q : Bk) (h : L[i]? = some q) : nth (nsB L) i = q.n := by
  unfold nth nsB
  simp [List.getD, h]
theorem row_dsB (L : List Bk) (i : Nat) (q : Bk) (h : L[i]? = some q) : row (dsB L) i = q.x := by
  unfold row dsB
  simp [List.getD, h]
/-- the lists that apart makes -/
theorem ApAt.lists {w w' : World} {D : Dk} {b n : Nat} {L : List Bk} {s2 s3 : Value} (h : ApAt w w' L n s2 s3) (hL : BlocksAt w b L) (hn : L.length = n) (h0 : 0 < n) (ok : ComOk D.nb (nsB L) (dsB L)) (ha : ∀ q ∈ L, ¬ D.has q.g) :
    ∃ a nc da dc, s2 = .slice (some ⟨a, 0, none⟩) n nc ∧ s3 = .slice (some ⟨da, 0, none⟩) n dc ∧ Ints w' (some ⟨a, 0, none⟩) (nsB L) ∧ Data w' (some ⟨da, 0, none⟩) (dsB L) ∧ Lists w' D a da n (nsB L) (dsB L) := by
  obtain ⟨a, nc, rfl⟩ := own_some h.nums h0
  obtain ⟨da, dc, rfl⟩ := own_some h.rows h0
  have ht : L.take n = L := by rw [← hn, List.take_length]
  have h1 := h.nums
  have h2 := h.rows
  rw [ht] at h1 h2
  have hI : Ints w' (some ⟨a, 0, none⟩) (nsB L) := (OwnI.of h1 (by simp [nsB, hn]) (by have := ok.hi; simp [nsB, hn] at this; omega)).ints
  have hB := hL.on h.bel
  have hc : ∀ i q, L[i]? = some q → w'.cell? ⟨da, i, none⟩ = some q.v := fun i q hq => by
    have := h2.cells (g := da) rfl i q.v (by simp [hq])
    rw [Addr.add_lit] at this
    simpa using this
  refine ⟨a, nc, da, dc, rfl, rfl, hI, ⟨by have := ok.hi; have := ok.dl; simp [dsB, nsB] at *; omega, .inr ⟨da, 0, rfl, fun i hi => ?_⟩⟩, ⟨fun i hi => ⟨?_, ?_⟩, fun i hi => ?_, by simp [nsB, hn], by simp [dsB, hn]⟩⟩
  · have hi' : i < L.length := by simpa [dsB] using hi
    obtain ⟨q, hq⟩ : ∃ q, L[i]? = some q := ⟨L[i], List.getElem?_eq_getElem hi'⟩
    have b3 := (hB.at_ i q hq).2.2
    refine ⟨some ⟨q.g, 0, none⟩, q.c, ?_, ?_, fun e => by cases e⟩
    · rw [Nat.zero_add, row_dsB L i q hq, b3.len]; exact hc i q hq
    · rw [row_dsB L i q hq]; exact b3.bytes
  · have := hI.cell (i := i) (by simp [nsB, hn]; exact hi)
    rwa [Nat.zero_add] at this
  · have := pre_bd _ _ ok.ris i (by simp [nsB, hn]; exact hi)
    omega
  · have hi' : i < L.length := by omega
    obtain ⟨q, hq⟩ : ∃ q, L[i]? = some q := ⟨L[i], List.getElem?_eq_getElem hi'⟩
    refine ⟨q.g, q.c, hc i q hq, ?_, ha q (List.mem_of_getElem? hq)⟩
    rw [row_dsB L i q hq]
    exact (hB.at_ i q hq).2.2
theorem DoneAt.from {w w1 : World} {D : Dk} {w' : World} {E : Dk} {acts : List WA} (h : DoneAt w1 D w' E acts) (hb : Below w.heap.size w w1) : DoneAt w D w' E acts :=
  ⟨h.disk, (mv_on w w1 D hb).trans h.mv, fun k hk => (h.al k hk).imp id (fun e => Nat.le_trans hb.size e), h.abs⟩
theorem logW_get (ds : List (List Int)) (j : Nat) (hj : j < ds.length) : (logW ds).take (j + 1) = (logW ds).take j ++ [(2 + j, row ds j)] := by
  rw [List.take_add_one, List.getElem?_eq_getElem (by rw [logW_length]; exact hj)]
  simp [logW]
end Go.Proofs.YtflienghgobmoaaGreatDoor

namespace Go.Proofs.YtflienghgobmoaaGreatDoor
open Go.RowKit Rec

set_option maxRecDepth 100000 in
set_option maxHeartbeats 1600000 in
theorem commit_nil (w : World) (v : Value) (a : Option Addr) (c : Nat) :
    Calls Tryz.prog 83 #[v, .slice a 0 c] w fun e w' => e = .returned (.int .i64 0) ∧ w = w' := by
  go_enter Tryz.func83, Tryz.ntmps83
  go_wp2
  go_ret
  exact ⟨rfl, rfl⟩
theorem commitA_length (nb : Nat) (ns : List Int) (ds : List (List Int)) (ok : ComOk nb ns ds) : (commitA ns ds).length = 2 * ns.length + 6 := by
  rw [commitA_grp, grp_length_cons, grp_length_cons, grp_length_cons, grp_length_cons, logW_length, homes_length ns ds ok.dl, ok.dl]
  simp only [grp, List.length_cons, List.length_nil]
  omega
theorem stp_new (w : World) (D : Dk) (hD : ∀ k, D.has k → k < w.heap.size) : Stp w.heap.size (w.alloc (.cells #[.pointer (some ⟨D.d, 0, none⟩), .slice none 0 0] 172)) D w.heap.size [] := by
  obtain ⟨hb, hr⟩ := rows1 w #[.pointer (some ⟨D.d, 0, none⟩), .slice none 0 0] 172
  exact ⟨⟨.slice none 0 0, [], ⟨hr, ⟨rfl, .inl ⟨rfl, rfl⟩⟩, fun i t ht => by simp at ht, fun e => absurd (hD _ e) (Nat.lt_irrefl _), fun k hk => by cases hk⟩, fun k hk => by cases hk⟩, Nat.le_refl _, hb.size, hD⟩
set_option maxRecDepth 100000 in
set_option maxHeartbeats 4000000 in
theorem commit_ok (w : World) (D : Dk) (h : Disk w D) (hT : TabAt w) (b n c : Nat) (L : List Bk) (hL : BlocksAt w b L) (hn : L.length = n) (h0 : 0 < n) (ok : ComOk D.nb (nsB L) (dsB L)) (ha : ∀ q ∈ L, ¬ D.has q.g) (hr : RoomN D.abs (2 * n + 6)) :
    Calls Tryz.prog 83 #[.pointer (some ⟨D.d, 0, none⟩), .slice (some ⟨b, 0, none⟩) n c] w fun e w' => e = .returned (.int .i64 (D.abs.takeE (commitA (nsB L) (dsB L)))) ∧ ∃ E, DoneAt w D w' E (commitA (nsB L) (dsB L)) := by
  have hnl : (nsB L).length = n := by simp [nsB, hn]
  have hdl : (dsB L).length = n := by simp [dsB, hn]
  have h96 : n ≤ 96 := by have := ok.hi; omega
  have HAp : Hid (Calls Tryz.prog 118 #[.slice (some ⟨b, 0, none⟩) n c] w fun e w' => ∃ a nc da dc, e = .returned (.tuple #[.slice (some ⟨a, 0, none⟩) n nc, .slice (some ⟨da, 0, none⟩) n dc]) ∧ Below w.heap.size w w' ∧ Ints w' (some ⟨a, 0, none⟩) (nsB L) ∧ Data w' (some ⟨da, 0, none⟩) (dsB L) ∧ Lists w' D a da n (nsB L) (dsB L)) := by
    refine (apart_any w b n c L hL hn h0 (by omega)).mono ?_
    rintro e w' ⟨s2, s3, rfl, hA⟩
    obtain ⟨a, nc, da, dc, rfl, rfl, h1, h2, h3⟩ := hA.lists hL hn h0 ok ha
    exact ⟨a, nc, da, dc, rfl, hA.bel, h1, h2, h3⟩
  have HD : Hid (∀ wx, Below w.heap.size w wx → Disk wx D ∧ TabAt wx) := fun wx hb => ⟨h.on hb, hT.on hb⟩
  have HDl : Hid (∀ k, D.has k → k < w.heap.size) := fun k hk => h.hasLt hk
  have HO : Hid (ComOk D.nb (nsB L) (dsB L)) := ok
  have HR : Hid (RoomN D.abs (commitA (nsB L) (dsB L)).length) := by
    show RoomN D.abs _
    rw [commitA_length _ _ _ ok, hnl]; exact hr
  have HCl : Hid ((commitA (nsB L) (dsB L)).length = 2 * n + 6) := by rw [← hnl]; exact commitA_length _ _ _ ok
  have HNl : Hid ((nsB L).length = n ∧ (dsB L).length = n) := ⟨hnl, hdl⟩
  have hnb : 98 ≤ D.nb := ok.n98
  have hz : ¬ (n : Int) = 0 := by omega
  obtain ⟨ns, hns⟩ : ∃ ns, nsB L = ns := ⟨_, rfl⟩
  obtain ⟨ds, hds⟩ : ∃ ds, dsB L = ds := ⟨_, rfl⟩
  rw [hns, hds] at HAp HO HR HCl HNl ⊢
  clear hT hL hn ok ha hr hnl hdl hns hds h
  go_enter Tryz.func83, Tryz.ntmps83
  go_upto_region 7 with (first
    | (go_at_call 118; refine HAp.out.mono ?_; rintro e w1 ⟨a, nc, da, dc, rfl, hb, h1, h2, h3⟩; have H1 : Hid (Below w.heap.size w w1 ∧ Ints w1 (some ⟨a, 0, none⟩) ns ∧ Data w1 (some ⟨da, 0, none⟩) ds ∧ Lists w1 D a da n ns ds) := ⟨hb, h1, h2, h3⟩; clear hb h1 h2 h3)
    | (go_at_call 114; have hh := H1.out; clear hh; refine (blocks_any _ D (HD.out _ H1.out.1).1).mono ?_; rintro e w' ⟨rfl, rfl⟩)
    | (go_at_call 119; have hh := H1.out; clear hh; refine (header_ok _ D.nb a nc da dc n ns ds HO.out HNl.out.1 H1.out.2.1 H1.out.2.2.1 (HD.out _ H1.out.1).2).mono ?_; rintro e w2 ⟨g, rfl, ho, hg, hb⟩; have H2 : Hid (Below w.heap.size w w2 ∧ OwnB w2 g 512 (made ns ds) ∧ w1.heap.size ≤ g ∧ Lists w2 D a da n ns ds) := ⟨H1.out.1.trans (hb.mono H1.out.1.size), ho, hg, H1.out.2.2.2.on hb⟩; clear ho hg hb))
  have H3 : Hid (Stp w2.heap.size (w2.alloc (.cells #[.pointer (some ⟨D.d, 0, none⟩), .slice none 0 0] 172)) D w2.heap.size []) := stp_new w2 D (fun k hk => Nat.lt_of_lt_of_le (HDl.out k hk) H2.out.1.size)
  obtain ⟨w3, hw3⟩ : ∃ w3, w3 = w2.alloc (.cells #[.pointer (some ⟨D.d, 0, none⟩), .slice none 0 0] 172) := ⟨_, rfl⟩
  have H3b : Hid (Below w2.heap.size w2 w3) := by rw [hw3]; exact (rows1 w2 _ _).1
  rw [← hw3] at H3
  go_wp2_with fail
  rw [← hw3]
  clear hw3
  obtain ⟨B, hB⟩ : ∃ B, w2.heap.size = B := ⟨_, rfl⟩
  have HB : Hid (w2.heap.size = B) := hB
  rw [hB] at H3 H3b ⊢
  clear hB
  have HG : Hid (¬ D.has g) := fun e => by have := HDl.out _ e; have := H2.out.2.2.1; have := H1.out.1.size; omega
  have HL : Hid (∀ wx, Below B w2 wx → Lists wx D a da n ns ds ∧ BlkAt wx g (made ns ds) ∧ Below w.heap.size w wx) := fun wx hb => by
    rw [← HB.out] at hb
    exact ⟨H2.out.2.2.2.on hb, (BlkAt.of H2.out.2.1 (made_length _ _)).on hb, H2.out.1.trans (hb.mono H2.out.1.size)⟩
  go_loopw [36] (fun s wr => ∃ j : Nat, j ≤ n ∧ s = .int .i64 j ∧ Stp B wr D B (((logW ds).take j).map some) ∧ Below B w2 wr) (fun s _ => n - (intOf s).toNat)
  case atStart => exact ⟨0, Nat.zero_le _, rfl, by simpa using H3.out, H3b.out⟩
  case round =>
    obtain ⟨j, hj, rfl, hs, hb⟩ := hrel
    have HS : Hid (Stp B wr D B (((logW ds).take j).map some) ∧ Below B w2 wr) := ⟨hs, hb⟩
    clear hs hb
    by_cases hlt : j < n
    · obtain ⟨g', c', r1, r2, r3⟩ := (HL.out _ HS.out.2).1.rows j hlt
      have HW : Hid (Calls Tryz.prog 120 #[.pointer (some ⟨B, 0, none⟩), .int .i64 (2 + (j : Int)), .slice (some ⟨g', 0, none⟩) 512 c'] wr fun e w' => e = .returned (.tuple #[]) ∧ Stp B w' D B (((logW ds).take (j + 1)).map some) ∧ Below B w2 w') := by
        refine (stp_write B wr D B _ HS.out.1 (2 + j) g' c' _ r2 r3 (by omega) (by rw [List.length_map, List.length_take]; omega)).mono ?_
        rintro e w' ⟨rfl, x1, x2⟩
        refine ⟨rfl, ?_, HS.out.2.trans x2⟩
        rw [logW_get ds j (by rw [HNl.out.2]; exact hlt), List.map_append]
        exact x1
      clear r2 r3
      go_wp2_with (go_at_call 120; refine HW.out.mono ?_; rintro e w4 ⟨rfl, h1, b1⟩; have H4 : Hid (Stp B w4 D B (((logW ds).take (j + 1)).map some) ∧ Below B w2 w4) := ⟨h1, b1⟩; clear h1 b1)
      go_round
      case rel => exact ⟨j + 1, by omega, by go_num, H4.out⟩
      case measure => simp [intOf]; omega
    · have e : j = n := by omega
      have HS2 : Hid (Stp B wr D B ((logW ds).map some) ∧ Below B w2 wr) := by
        have := HS.out
        rw [List.take_of_length_le (by rw [logW_length, HNl.out.2]; omega)] at this
        exact this
      have hl2 : ((logW ds).map some).length = n := by rw [List.length_map, logW_length, HNl.out.2]
      have HF : Hid (Calls Tryz.prog 121 #[.pointer (some ⟨B, 0, none⟩)] wr fun e w' => e = .returned (.tuple #[]) ∧ Stp B w' D B ((logW ds).map some ++ [none]) ∧ Below B wr w') := stp_flush B wr D B _ HS2.out.1 (by omega)
      have HH : Hid (∀ w', Stp B w' D B ((logW ds).map some ++ [none]) → Below B w2 w' → Calls Tryz.prog 122 #[.pointer (some ⟨B, 0, none⟩), .slice (some ⟨g, 0, none⟩) 512 512] w' fun e w'' => e = .returned (.tuple #[]) ∧ Stp B w'' D B ((logW ds).map some ++ [none] ++ [some (1, made ns ds), none]) ∧ Below B w' w'') := fun w' h1 h2 => stp_header B w' D B _ h1 g 512 _ (HL.out _ h2).2.1 HG.out (by omega) (by rw [List.length_append, hl2]; simp; omega)
      have HM : Hid (∀ w', Stp B w' D B ((logW ds).map some ++ [none] ++ [some (1, made ns ds), none]) → Below B w2 w' → Calls Tryz.prog 123 #[.pointer (some ⟨B, 0, none⟩), .slice (some ⟨a, 0, none⟩) n nc, .slice (some ⟨da, 0, none⟩) n dc] w' fun e w'' => e = .returned (.tuple #[]) ∧ Stp B w'' D B (commitA ns ds) ∧ Below B w' w'') := fun w' h1 h2 => by
        have := home_any B w' D B _ h1 a nc da dc n ns ds (fun wx hx => (HL.out _ (h2.trans hx)).1) (by omega) (by rw [List.length_append, List.length_append, hl2]; simp; omega)
        have e : (logW ds).map some ++ [none] ++ [some (1, made ns ds), none] ++ homeA (homes ns ds) = commitA ns ds := by unfold commitA; simp only [List.append_assoc, List.cons_append, List.nil_append]
        rwa [e] at this
      have HC : Hid (∀ w', Stp B w' D B (commitA ns ds) → Below B w2 w' → Calls Tryz.prog 124 #[.pointer (some ⟨B, 0, none⟩)] w' fun e w'' => e = .returned (.int .i64 (D.abs.takeE (commitA ns ds))) ∧ ∃ E, DoneAt w D w'' E (commitA ns ds)) := fun w' h1 h2 => by
        obtain ⟨v, fs, x1, x2⟩ := h1.at_
        have hb := (HL.out _ h2).2.2
        refine (carry_any w' D (HD.out _ hb).1 B v fs _ x1 HR.out (by rw [HCl.out]; omega)).mono ?_
        rintro e w'' ⟨rfl, E, hE⟩
        exact ⟨rfl, E, hE.from hb⟩
      clear hl2 HS
      go_wp2_with (first
        | (go_at_call 121; refine HF.out.mono ?_; rintro e w4 ⟨rfl, h1, b1⟩; have H4 : Hid (Stp B w4 D B ((logW ds).map some ++ [none]) ∧ Below B w2 w4) := ⟨h1, HS2.out.2.trans b1⟩; clear h1 b1)
        | (go_at_call 122; have hh := H4.out; clear hh; refine (HH.out _ H4.out.1 H4.out.2).mono ?_; rintro e w5 ⟨rfl, h1, b1⟩; have H5 : Hid (Stp B w5 D B ((logW ds).map some ++ [none] ++ [some (1, made ns ds), none]) ∧ Below B w2 w5) := ⟨h1, H4.out.2.trans b1⟩; clear h1 b1)
        | (go_at_call 123; have hh := H5.out; clear hh; refine (HM.out _ H5.out.1 H5.out.2).mono ?_; rintro e w6 ⟨rfl, h1, b1⟩; have H6 : Hid (Stp B w6 D B (commitA ns ds) ∧ Below B w2 w6) := ⟨h1, H5.out.2.trans b1⟩; clear h1 b1)
        | (go_at_call 124; have hh := H6.out; clear hh; refine (HC.out _ H6.out.1 H6.out.2).mono ?_; rintro e w7 ⟨rfl, hE⟩; have H7 : Hid (∃ E, DoneAt w D w7 E (commitA ns ds)) := hE; clear hE))
      go_ret
      exact ⟨rfl, H7.out⟩
end Go.Proofs.YtflienghgobmoaaGreatDoor

namespace Go.Proofs.YtflienghgobmoaaGreatDoor
open Go.RowKit Rec

theorem DoneAt.set {w w1 w' : World} {D E : Dk} {acts : List WA} (h : DoneAt w1 D w' E acts) (hb : Below w.heap.size w w1) (hD : Disk w D) (p i : Nat) (h1 : w.heap.size ≤ p) (h2 : p < w1.heap.size) (v : Value) : DoneAt w D (w'.setCell ⟨p, i, none⟩ v) E acts := by
  have hF := h.from hb
  refine ⟨h.disk.fr Fr.set (fun k hk e => ?_), ⟨hF.mv.fr.trans Fr.set (fun k hk => .inr (by rw [hk]; exact h1)), hF.mv.has, hF.mv.d, hF.mv.nb⟩, hF.al, h.abs⟩
  subst e
  rcases h.al k hk with e | e
  · have := hD.allLt e; omega
  · omega
theorem logH_length (F : List Int) (nb : Nat) : (logH F nb).length = (logN F nb).length := homes_length _ _ (logD_length _ _)
end Go.Proofs.YtflienghgobmoaaGreatDoor

namespace Go.Proofs.YtflienghgobmoaaGreatDoor
open Go.RowKit Rec

theorem LogAt.lists {w0 w : World} {D : Dk} {F : List Int} {nb k : Nat} {v1 v2 : Value} {L : List Rb} (h : LogAt w0 w F nb v1 v2 L) (hk : (logN F nb).length = k) (h0 : 0 < k) (hl : F.length = 512 * nb) (hnb : 98 ≤ nb) (hD : ∀ b, D.has b → b < w0.heap.size) (hN : D.nb = nb) :
    ∃ gn cn gd cd, v1 = .slice (some ⟨gn, 0, none⟩) k cn ∧ v2 = .slice (some ⟨gd, 0, none⟩) k cd ∧ Lists w D gn gd k (logN F nb) (logD F k) := by
  obtain ⟨gn, cn, gd, cd, e1, e2, h1, h2, hat⟩ := h.at_ hk h0
  have hkl := logN_len F nb
  rw [hk] at hkl
  refine ⟨gn, cn, gd, cd, e1, e2, fun i hi => ?_, fun i hi => ?_, hk, logD_length _ _⟩
  · obtain ⟨m, hm, m1, m2⟩ := logN_nat F nb i (by rw [hk]; exact hi)
    rw [hN]
    refine ⟨(hat i hi).1, ?_, ?_⟩ <;> omega
  · obtain ⟨_, g, c, n2, n3, n4⟩ := hat i hi
    refine ⟨g, c, n2, ?_, fun e => by have := hD g e; omega⟩
    rw [row_logD F k i hi]
    exact BlkAt.of n3 (bck_length F _ nb hl (by omega))
end Go.Proofs.YtflienghgobmoaaGreatDoor

namespace Go.Proofs.YtflienghgobmoaaGreatDoor
open Go.RowKit Rec

end Go.Proofs.YtflienghgobmoaaGreatDoor

namespace Go.Proofs.YtflienghgobmoaaGreatDoor
open Go.RowKit Rec

end Go.Proofs.YtflienghgobmoaaGreatDoor

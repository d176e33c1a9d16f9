import Derived.Test.YtckldbhaaagncaaGreatDoorKWCm
namespace Go.Proofs.YtckldbhaaagncaaGreatDoor
open Go.RowKit Rec

/-- steps that are being laid; what they lie in is new (from B on), the disk is not -/
structure Stp (B : Nat) (w : World) (D : Dk) (p : Nat) (acts : List WA) : Prop where
  at_ : ∃ v fs, StepsAt w D p v fs acts ∧ ∀ k, v.ownBlock = some k → B ≤ k
  p : B ≤ p
  b : B ≤ w.heap.size
  d : ∀ k, D.has k → k < B
theorem Stp.on {B : Nat} {w w' : World} {D : Dk} {p : Nat} {acts : List WA} (h : Stp B w D p acts) (hb : Below w.heap.size w w') : Stp B w' D p acts := by
  obtain ⟨v, fs, h1, h2⟩ := h.at_
  exact ⟨⟨v, fs, h1.on hb, h2⟩, h.p, Nat.le_trans h.b hb.size, h.d⟩
theorem stp_write (B : Nat) (w : World) (D : Dk) (p : Nat) (acts : List WA) (h : Stp B w D p acts) (i g c : Nat) (x : List Int) (hx : BlkAt w g x) (hg : ¬ D.has g) (hi : i < D.nb) (hl : acts.length + 1 ≤ 1000000) :
    Calls Tryz.prog 37 #[.pointer (some ⟨p, 0, none⟩), .int .i64 i, .slice (some ⟨g, 0, none⟩) 512 c] w fun e w' => e = .returned (.tuple #[]) ∧ Stp B w' D p (acts ++ [some (i, x)]) ∧ Below B w w' := by
  obtain ⟨v, fs, h1, h2⟩ := h.at_
  refine (swrite_any B w D h.d p v fs acts h1 h.p h2 h.b i g c x hx hg hi hl).mono ?_
  rintro e w' ⟨rfl, v', f, x1, x2, x3⟩
  exact ⟨rfl, ⟨⟨v', _, x1, x2⟩, h.p, Nat.le_trans h.b x3.size, h.d⟩, x3⟩
theorem stp_flush (B : Nat) (w : World) (D : Dk) (p : Nat) (acts : List WA) (h : Stp B w D p acts) (hl : acts.length + 1 ≤ 1000000) :
    Calls Tryz.prog 38 #[.pointer (some ⟨p, 0, none⟩)] w fun e w' => e = .returned (.tuple #[]) ∧ Stp B w' D p (acts ++ [none]) ∧ Below B w w' := by
  obtain ⟨v, fs, h1, h2⟩ := h.at_
  refine (sflush_any B w D h.d p v fs acts h1 h.p h2 h.b hl).mono ?_
  rintro e w' ⟨rfl, v', f, x1, x2, x3⟩
  exact ⟨rfl, ⟨⟨v', _, x1, x2⟩, h.p, Nat.le_trans h.b x3.size, h.d⟩, x3⟩
set_option maxRecDepth 100000 in
set_option maxHeartbeats 1600000 in
theorem stp_header (B : Nat) (w : World) (D : Dk) (p : Nat) (acts : List WA) (h : Stp B w D p acts) (g c : Nat) (x : List Int) (hx : BlkAt w g x) (hg : ¬ D.has g) (hi : 1 < D.nb) (hl : acts.length + 2 ≤ 1000000) :
    Calls Tryz.prog 39 #[.pointer (some ⟨p, 0, none⟩), .slice (some ⟨g, 0, none⟩) 512 c] w fun e w' => e = .returned (.tuple #[]) ∧ Stp B w' D p (acts ++ [some (1, x), none]) ∧ Below B w w' := by
  have HW : Hid (Calls Tryz.prog 37 #[.pointer (some ⟨p, 0, none⟩), .int .i64 1, .slice (some ⟨g, 0, none⟩) 512 c] w fun e w' => e = .returned (.tuple #[]) ∧ Stp B w' D p (acts ++ [some (1, x)]) ∧ Below B w w') := stp_write B w D p acts h 1 g c x hx hg hi (by omega)
  have HF : Hid (∀ w', Stp B w' D p (acts ++ [some (1, x)]) → Calls Tryz.prog 38 #[.pointer (some ⟨p, 0, none⟩)] w' fun e w'' => e = .returned (.tuple #[]) ∧ Stp B w'' D p (acts ++ [some (1, x), none]) ∧ Below B w' w'') := fun w' h' => by
    have := stp_flush B w' D p _ h' (by rw [List.length_append]; simp; omega)
    rwa [List.append_assoc] at this
  clear h hx hg
  go_enter Tryz.func39, Tryz.ntmps39
  go_wp2_with (first
    | (go_at_call 37; refine HW.out.mono ?_; rintro e w1 ⟨rfl, h1, b1⟩; have H1 : Hid (Stp B w1 D p (acts ++ [some (1, x)]) ∧ Below B w w1) := ⟨h1, b1⟩; clear h1 b1)
    | (go_at_call 38; refine (HF.out _ H1.out.1).mono ?_; rintro e w2 ⟨rfl, h1, b1⟩; have H2 : Hid (Stp B w2 D p (acts ++ [some (1, x), none]) ∧ Below B w w2) := ⟨h1, H1.out.2.trans b1⟩; clear h1 b1))
  go_end0
  exact ⟨rfl, H2.out⟩
/-- numbers and blocks in rows -/
structure Lists (w : World) (D : Dk) (a da k : Nat) (ns : List Int) (ds : List (List Int)) : Prop where
  nums : ∀ i, i < k → w.cell? ⟨a, i, none⟩ = some (.int .i64 (nth ns i)) ∧ 0 ≤ nth ns i ∧ nth ns i < D.nb
  rows : ∀ i, i < k → ∃ g c, w.cell? ⟨da, i, none⟩ = some (.slice (some ⟨g, 0, none⟩) 512 c) ∧ BlkAt w g (row ds i) ∧ ¬ D.has g
  nl : ns.length = k
  dl : ds.length = k
theorem Lists.on {w w' : World} {D : Dk} {a da k : Nat} {ns : List Int} {ds : List (List Int)} (h : Lists w D a da k ns ds) (x : Below w.heap.size w w') : Lists w' D a da k ns ds :=
  ⟨fun i hi => by obtain ⟨h1, h2⟩ := h.nums i hi; exact ⟨(x.cell (block_lt_of_cell h1)).trans h1, h2⟩, fun i hi => by obtain ⟨g, c, h1, h2, h3⟩ := h.rows i hi; exact ⟨g, c, (x.cell (block_lt_of_cell h1)).trans h1, h2.on x, h3⟩, h.nl, h.dl⟩
set_option maxRecDepth 100000 in
set_option maxHeartbeats 4000000 in
theorem home_any (B : Nat) (w : World) (D : Dk) (p : Nat) (acts : List WA) (h : Stp B w D p acts) (a nc da dc k : Nat) (ns : List Int) (ds : List (List Int)) (hL : ∀ wx, Below B w wx → Lists wx D a da k ns ds) (h98 : 1 < D.nb) (hl : acts.length + k + 3 ≤ 1000000) :
    Calls Tryz.prog 40 #[.pointer (some ⟨p, 0, none⟩), .slice (some ⟨a, 0, none⟩) k nc, .slice (some ⟨da, 0, none⟩) k dc] w fun e w' => e = .returned (.tuple #[]) ∧ Stp B w' D p (acts ++ homeA (homes ns ds)) ∧ Below B w w' := by
  have HL : Hid (∀ wx, Below B w wx → Lists wx D a da k ns ds) := hL
  have HHl : Hid ((homes ns ds).length = k) := by
    have := hL w (Below.refl _ _)
    show _ = _
    rw [homes_length ns ds (by rw [this.nl, this.dl]), this.nl]
  have H0 : Hid (Stp B w D p (acts ++ ((homes ns ds).take 0).map some)) := by
    show Stp B w D p (acts ++ ((homes ns ds).take 0).map some)
    simpa using h
  clear hL h
  go_enter Tryz.func40, Tryz.ntmps40
  go_wp2
  go_loopw [10] (fun s wr => ∃ j : Nat, j ≤ k ∧ s = .int .i64 j ∧ Stp B wr D p (acts ++ ((homes ns ds).take j).map some) ∧ Below B w wr) (fun s _ => k - (intOf s).toNat)
  case atStart => exact ⟨0, Nat.zero_le _, rfl, H0.out, Below.refl _ _⟩
  case round =>
    obtain ⟨j, hj, rfl, hs, hb⟩ := hrel
    have HS : Hid (Stp B wr D p (acts ++ ((homes ns ds).take j).map some) ∧ Below B w wr) := ⟨hs, hb⟩
    clear hs hb
    by_cases hlt : j < k
    · obtain ⟨n1, n2, n3⟩ := (HL.out _ HS.out.2).nums j hlt
      obtain ⟨g, c, r1, r2, r3⟩ := (HL.out _ HS.out.2).rows j hlt
      obtain ⟨m, hm⟩ : ∃ m : Nat, nth ns j = (m : Int) := ⟨(nth ns j).toNat, by omega⟩
      have HT : Hid ((homes ns ds).take (j + 1) = (homes ns ds).take j ++ [(m, row ds j)]) := by
        show _ = _
        rw [List.take_add_one, List.getElem?_eq_getElem (by rw [HHl.out]; exact hlt), homes_get, hm]; rfl
      have HW : Hid (Calls Tryz.prog 37 #[.pointer (some ⟨p, 0, none⟩), .int .i64 m, .slice (some ⟨g, 0, none⟩) 512 c] wr fun e w' => e = .returned (.tuple #[]) ∧ Stp B w' D p (acts ++ ((homes ns ds).take (j + 1)).map some) ∧ Below B w w') := by
        refine (stp_write B wr D p _ HS.out.1 m g c _ r2 r3 (by omega) (by rw [List.length_append, List.length_map, List.length_take]; omega)).mono ?_
        rintro e w' ⟨rfl, x1, x2⟩
        refine ⟨rfl, ?_, HS.out.2.trans x2⟩
        rw [HT.out, List.map_append, ← List.append_assoc]
        exact x1
      rw [hm] at n1
      clear n2 n3 r2 r3 hm HT
      go_wp2_with (go_at_call 37; refine HW.out.mono ?_; rintro e w1 ⟨rfl, h1, b1⟩; have H1 : Hid (Stp B w1 D p (acts ++ ((homes ns ds).take (j + 1)).map some) ∧ Below B w w1) := ⟨h1, b1⟩; clear h1 b1)
      go_round
      case rel => exact ⟨j + 1, by omega, by go_num, H1.out⟩
      case measure => simp [intOf]; omega
    · have e : j = k := by omega
      have HS2 : Hid (Stp B wr D p (acts ++ (homes ns ds).map some) ∧ Below B w wr) := by
        have := HS.out
        rw [e, ← HHl.out, List.take_length] at this
        exact this
      have hl2 : (acts ++ (homes ns ds).map some).length + 3 ≤ 1000000 := by rw [List.length_append, List.length_map, HHl.out]; omega
      have HF : Hid (Calls Tryz.prog 38 #[.pointer (some ⟨p, 0, none⟩)] wr fun e w' => e = .returned (.tuple #[]) ∧ Stp B w' D p ((acts ++ (homes ns ds).map some) ++ [none]) ∧ Below B wr w') := stp_flush B wr D p _ HS2.out.1 (by omega)
      have HH : Hid (∀ w' g c, Stp B w' D p ((acts ++ (homes ns ds).map some) ++ [none]) → BlkAt w' g zs → B ≤ g → Calls Tryz.prog 39 #[.pointer (some ⟨p, 0, none⟩), .slice (some ⟨g, 0, none⟩) 512 c] w' fun e w'' => e = .returned (.tuple #[]) ∧ Stp B w'' D p (acts ++ homeA (homes ns ds)) ∧ Below B w' w'') := fun w' g c h1 h2 h3 => by
        have := stp_header B w' D p _ h1 g c zs h2 (fun e => by have := h1.d _ e; omega) h98 (by rw [List.length_append]; simp; simp at hl2; omega)
        have e : acts ++ (homes ns ds).map some ++ [none] ++ [some (1, zs), none] = acts ++ homeA (homes ns ds) := by unfold homeA; simp only [List.append_assoc, List.singleton_append]
        rwa [e] at this
      clear hl2 HS
      go_wp2_with (first
        | (go_at_call 38; refine HF.out.mono ?_; rintro e w1 ⟨rfl, h1, b1⟩; have H1 : Hid (Stp B w1 D p ((acts ++ (homes ns ds).map some) ++ [none]) ∧ Below B w w1) := ⟨h1, HS2.out.2.trans b1⟩; clear h1 b1)
        | (go_at_call 51; refine (empty_any _).mono ?_; rintro e w2 ⟨g, rfl, ho, hg, hb⟩; have H2 : Hid (Stp B w2 D p ((acts ++ (homes ns ds).map some) ++ [none]) ∧ Below B w w2 ∧ BlkAt w2 g zs ∧ B ≤ g) := ⟨H1.out.1.on hb, H1.out.2.trans (hb.mono H1.out.1.b), BlkAt.of ho zs_length, Nat.le_trans H1.out.1.b hg⟩; clear ho hg hb)
        | (go_at_call 39; refine (HH.out _ _ _ H2.out.1 H2.out.2.2.1 H2.out.2.2.2).mono ?_; rintro e w3 ⟨rfl, h1, b1⟩; have H3 : Hid (Stp B w3 D p (acts ++ homeA (homes ns ds)) ∧ Below B w w3) := ⟨h1, H2.out.2.1.trans b1⟩; clear h1 b1))
      go_end0
      exact ⟨rfl, H3.out⟩
end Go.Proofs.YtckldbhaaagncaaGreatDoor

namespace Go.Proofs.YtckldbhaaagncaaGreatDoor
open Go.RowKit Rec

theorem ComOk.may16 {nb : Nat} {ns : List Int} {ds : List (List Int)} (h : ComOk nb ns ds) : may ns 16384 = true :=
  may_mono ns nb 16384 h.ris (fun i hi => by have := pre_bd ns nb h.ris i hi; have := h.n16; omega)
theorem ComOk.make {nb : Nat} {ns : List Int} {ds : List (List Int)} (h : ComOk nb ns ds) : makeE ns ds = 0 := by
  unfold makeE
  rw [if_pos ⟨⟨h.lo, h.hi⟩, h.may16⟩, if_pos]
  unfold blk
  rw [Bool.and_eq_true, decide_eq_true_eq, decide_eq_true_eq]
  exact ⟨h.dl, h.bl⟩
set_option maxRecDepth 100000 in
set_option maxHeartbeats 1600000 in
theorem header_ok (w : World) (nb a nc da dc k : Nat) (ns : List Int) (ds : List (List Int)) (ok : ComOk nb ns ds) (hk : ns.length = k) (hI : Ints w (some ⟨a, 0, none⟩) ns) (hD : Data w (some ⟨da, 0, none⟩) ds) (hT : TabAt w) :
    Calls Tryz.prog 36 #[.int .i64 nb, .slice (some ⟨a, 0, none⟩) k nc, .slice (some ⟨da, 0, none⟩) k dc] w fun e w' => ∃ g, e = .returned (.tuple #[.slice (some ⟨g, 0, none⟩) 512 512, .int .i64 0]) ∧ OwnB w' g 512 (made ns ds) ∧ w.heap.size ≤ g ∧ Below w.heap.size w w' := by
  have h1 := ok.lo
  have h2 := ok.hi
  rw [hk] at h1 h2
  obtain ⟨m, rfl⟩ : ∃ m, k = m + 1 := ⟨k - 1, by omega⟩
  have hc : w.cell? ⟨a, m, none⟩ = some (.int .i64 (nth ns m)) := by have := hI.cell (i := m) (by omega); rwa [Nat.zero_add] at this
  have hb := (pre_bd ns nb ok.ris m (by omega)).2
  have hlt : ¬ (nb : Int) ≤ nth ns m := by omega
  obtain ⟨V, hV⟩ : ∃ V, nth ns m = V := ⟨_, rfl⟩
  rw [hV] at hc hlt
  have hm1 : ((m + 1 : Nat) : Int) - 1 = (m : Int) := by omega
  have HM : Hid (Calls Tryz.prog 46 #[.slice (some ⟨a, 0, none⟩) (m + 1) nc, .slice (some ⟨da, 0, none⟩) (m + 1) dc] w fun e w' => ∃ g, e = .returned (.tuple #[.slice (some ⟨g, 0, none⟩) 512 512, .int .i64 0]) ∧ OwnB w' g 512 (made ns ds) ∧ w.heap.size ≤ g ∧ Below w.heap.size w w') := by
    refine (make_any w _ _ (m + 1) nc (m + 1) dc ns ds hk (by rw [ok.dl, hk]) hI hD hT).mono ?_
    rintro e w' ⟨v, rfl, hv, hb⟩
    rcases hv with ⟨h, _⟩ | ⟨h, g, rfl, ho, hg⟩
    · exact absurd ok.make h
    · exact ⟨g, by rw [h], ho, hg, hb⟩
  clear hI hD hT hb hV ok hk
  go_enter Tryz.func36, Tryz.ntmps36
  go_wp2_with (go_at_call 46; refine HM.out.mono ?_; rintro e w1 ⟨g, rfl, ho, hg, hb⟩; have H1 : Hid (OwnB w1 g 512 (made ns ds) ∧ w.heap.size ≤ g ∧ Below w.heap.size w w1) := ⟨ho, hg, hb⟩; clear ho hg hb)
  go_ret2
  exact ⟨g, rfl, H1.out⟩
theorem nth_nsB (L : List Bk) (i : Nat) (q : Bk) (h : L[i]? = some q) : nth (nsB L) i = q.n := by
  unfold nth nsB
  simp [List.getD, h]
theorem row_dsB (L : List Bk) (i : Nat) (q : Bk) (h : L[i]? = some q) : row (dsB L) i = q.x := by
  unfold row dsB
  simp [List.getD, h]
/-- the lists that apart makes -/
theorem ApAt.lists {w w' : World} {D : Dk} {b n : Nat} {L : List Bk} {s2 s3 : Value} (h : ApAt w w' L n s2 s3) (hL : BlocksAt w b L) (hn : L.length = n) (h0 : 0 < n) (ok : ComOk D.nb (nsB L) (dsB L)) (ha : ∀ q ∈ L, ¬ D.has q.g) :
    ∃ a nc da dc, s2 = .slice (some ⟨a, 0, none⟩) n nc ∧ s3 = .slice (some ⟨da, 0, none⟩) n dc ∧ Ints w' (some ⟨a, 0, none⟩) (nsB L) ∧ Data w' (some ⟨da, 0, none⟩) (dsB L) ∧ Lists w' D a da n (nsB L) (dsB L) := by
  obtain ⟨a, nc, rfl⟩ := own_some h.nums h0
  obtain ⟨da, dc, rfl⟩ := own_some h.rows h0
  have ht : L.take n = L := by rw [← hn, List.take_length]
  have h1 := h.nums
  have h2 := h.rows
  rw [ht] at h1 h2
  have hI : Ints w' (some ⟨a, 0, none⟩) (nsB L) := (OwnI.of h1 (by simp [nsB, hn]) (by have := ok.hi; simp [nsB, hn] at this; omega)).ints
  have hB := hL.on h.bel
  have hc : ∀ i q, L[i]? = some q → w'.cell? ⟨da, i, none⟩ = some q.v := fun i q hq => by
    have := h2.cells (g := da) rfl i q.v (by simp [hq])
    rw [Addr.add_lit] at this
    simpa using this
  refine ⟨a, nc, da, dc, rfl, rfl, hI, ⟨by have := ok.hi; have := ok.dl; simp [dsB, nsB] at *; omega, .inr ⟨da, 0, rfl, fun i hi => ?_⟩⟩, ⟨fun i hi => ⟨?_, ?_⟩, fun i hi => ?_, by simp [nsB, hn], by simp [dsB, hn]⟩⟩
  · have hi' : i < L.length := by simpa [dsB] using hi
    obtain ⟨q, hq⟩ : ∃ q, L[i]? = some q := ⟨L[i], List.getElem?_eq_getElem hi'⟩
    have b3 := (hB.at_ i q hq).2.2
    refine ⟨some ⟨q.g, 0, none⟩, q.c, ?_, ?_, fun e => by cases e⟩
    · rw [Nat.zero_add, row_dsB L i q hq, b3.len]; exact hc i q hq
    · rw [row_dsB L i q hq]; exact b3.bytes
  · have := hI.cell (i := i) (by simp [nsB, hn]; exact hi)
    rwa [Nat.zero_add] at this
  · have := pre_bd _ _ ok.ris i (by simp [nsB, hn]; exact hi)
    omega
  · have hi' : i < L.length := by omega
    obtain ⟨q, hq⟩ : ∃ q, L[i]? = some q := ⟨L[i], List.getElem?_eq_getElem hi'⟩
    refine ⟨q.g, q.c, hc i q hq, ?_, ha q (List.mem_of_getElem? hq)⟩
    rw [row_dsB L i q hq]
    exact (hB.at_ i q hq).2.2
theorem DoneAt.from {w w1 : World} {D : Dk} {w' : World} {E : Dk} {acts : List WA} (h : DoneAt w1 D w' E acts) (hb : Below w.heap.size w w1) : DoneAt w D w' E acts :=
  ⟨h.disk, (mv_on w w1 D hb).trans h.mv, fun k hk => (h.al k hk).imp id (fun e => Nat.le_trans hb.size e), h.abs⟩
theorem logW_get (ds : List (List Int)) (j : Nat) (hj : j < ds.length) : (logW ds).take (j + 1) = (logW ds).take j ++ [(2 + j, row ds j)] := by
  rw [List.take_add_one, List.getElem?_eq_getElem (by rw [logW_length]; exact hj)]
  simp [logW]
end Go.Proofs.YtckldbhaaagncaaGreatDoor

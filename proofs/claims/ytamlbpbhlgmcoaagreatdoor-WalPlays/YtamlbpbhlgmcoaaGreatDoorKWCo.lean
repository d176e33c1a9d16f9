import Derived.Test.YtamlbpbhlgmcoaaGreatDoorKWBi
namespace Go.Proofs.YtamlbpbhlgmcoaaGreatDoor
open Go.RowKit Rec

theorem al_refl (n : Nat) (D : Dk) : Al n D D := fun _ hk => .inl hk
theorem take_single (a : AD) (t : WA) (hd : a.down = false) : a.takeE [t] = a.stepE ∧ a.take [t] = a.act t := by
  unfold AD.stepE
  rw [AD.takeE, AD.take, hd]
  simp only [Bool.false_eq_true, if_false]
  split
  · exact ⟨rfl, rfl⟩
  · exact ⟨rfl, rfl⟩
theorem take_down (a : AD) (t : WA) (xs : List WA) (hd : a.down = true) : a.takeE (t :: xs) = 30 ∧ a.take (t :: xs) = a := by
  rw [AD.takeE, AD.take, hd]; exact ⟨rfl, rfl⟩
theorem write_job (w : World) (D : Dk) (h : Disk w D) (i g c : Nat) (x : List Int) (hx : BlkAt w g x) (hg : ¬ D.has g) (hi : i < D.nb) (hr : RoomD D.abs) :
    Calls Tryz.prog 31 #[.pointer (some ⟨D.d, 0, none⟩), .int .i64 i, .slice (some ⟨g, 0, none⟩) 512 c] w fun e w' => e = .returned (.int .i64 (D.abs.takeE [some (i, x)])) ∧ ∃ D', Disk w' D' ∧ Mv w D w' D' ∧ Al w.heap.size D D' ∧ D'.abs = D.abs.take [some (i, x)] := by
  cases hd : D.down with
  | true =>
    have ht : touchE D i = 30 := by unfold touchE; rw [hd]; rfl
    obtain ⟨e1, e2⟩ := take_down D.abs (some (i, x)) [] hd
    rw [e1, e2]
    refine (write_no w D h i _ _ _ (by rw [ht]; decide)).mono ?_
    rintro e w' ⟨rfl, rfl⟩
    exact ⟨by rw [ht], D, h, Mv.refl _ _, al_refl _ _, rfl⟩
  | false =>
    obtain ⟨e1, e2⟩ := take_single D.abs (some (i, x)) hd
    rw [e1, e2]
    exact write_yes w D h i ⟨g, 0, none⟩ c x hi hd hx.bytes hx.len hr hg
theorem flush_job (w : World) (D : Dk) (h : Disk w D) (hr : RoomD D.abs) :
    Calls Tryz.prog 33 #[.pointer (some ⟨D.d, 0, none⟩)] w fun e w' => e = .returned (.int .i64 (D.abs.takeE [none])) ∧ ∃ D', Disk w' D' ∧ Mv w D w' D' ∧ Al w.heap.size D D' ∧ D'.abs = D.abs.take [none] := by
  cases hd : D.down with
  | true =>
    obtain ⟨e1, e2⟩ := take_down D.abs none [] hd
    rw [e1, e2]
    refine (flush_no w D h hd).mono ?_
    rintro e w' ⟨rfl, hb⟩
    exact ⟨rfl, D, h.on hb, mv_on _ _ _ hb, al_refl _ _, rfl⟩
  | false =>
    obtain ⟨e1, e2⟩ := take_single D.abs none hd
    rw [e1, e2]
    exact flush_yes w D h hd hr
set_option maxRecDepth 100000 in
set_option maxHeartbeats 1600000 in
theorem flush1_job (w : World) (D : Dk) (h : Disk w D) (p : Nat) (v : Value) (fs : List Value) (acts : List WA) (hs : StepsAt w D p v fs acts) (s : Nat) (hrow : w.heap[s]? = some (.cells #[.pointer (some ⟨p, 0, none⟩)] 86 (0, 0))) (hr : RoomD D.abs) :
    Calls Tryz.prog 82 #[.pointer (some ⟨s, 0, none⟩)] w fun e w' => e = .returned (.int .i64 (D.abs.takeE [none])) ∧ ∃ D', Disk w' D' ∧ Mv w D w' D' ∧ Al w.heap.size D D' ∧ D'.abs = D.abs.take [none] := by
  have HC : Hid (Calls Tryz.prog 33 #[.pointer (some ⟨D.d, 0, none⟩)] w fun e w' => e = .returned (.int .i64 (D.abs.takeE [none])) ∧ ∃ D', Disk w' D' ∧ Mv w D w' D' ∧ Al w.heap.size D D' ∧ D'.abs = D.abs.take [none]) := flush_job w D h hr
  obtain ⟨q0, q1, q2⟩ := hs.cells
  have q3 : w.cell? ⟨s, 0, none⟩ = some (.pointer (some ⟨p, 0, none⟩)) := by rw [cell_of_row _ _ _ _ _ _ hrow]; rfl
  clear h hs hrow hr q1 q2
  go_enter Tryz.func82, Tryz.ntmps82
  go_wp2_with (go_at_call 33; refine HC.out.mono ?_; rintro e w' ⟨rfl, hD⟩; have HD : Hid (∃ D', Disk w' D' ∧ Mv w D w' D' ∧ Al w.heap.size D D' ∧ D'.abs = D.abs.take [none]) := hD; clear hD)
  go_ret
  exact ⟨rfl, HD.out⟩
set_option maxRecDepth 100000 in
set_option maxHeartbeats 1600000 in
theorem write1_job (w : World) (D : Dk) (h : Disk w D) (p : Nat) (v : Value) (fs : List Value) (acts : List WA) (hs : StepsAt w D p v fs acts) (q : Nat × List Int) (s n b g c : Nat) (h1 : w.heap[s]? = some (.cells #[.pointer (some ⟨p, 0, none⟩)] 86 (0, 0))) (h2 : w.heap[n]? = some (.cells #[.int .i64 q.1] 3 (0, 0))) (h3 : w.heap[b]? = some (.cells #[.slice (some ⟨g, 0, none⟩) 512 c] 37 (0, 0))) (h4 : BlkAt w g q.2) (h5 : q.1 < D.nb) (h9 : ¬ D.has g) (hr : RoomD D.abs) :
    Calls Tryz.prog 81 #[.pointer (some ⟨s, 0, none⟩), .pointer (some ⟨n, 0, none⟩), .pointer (some ⟨b, 0, none⟩)] w fun e w' => e = .returned (.int .i64 (D.abs.takeE [some q])) ∧ ∃ D', Disk w' D' ∧ Mv w D w' D' ∧ Al w.heap.size D D' ∧ D'.abs = D.abs.take [some q] := by
  have hb : Below w.heap.size w w.drew := (Below.refl _ _).drew
  have HC : Hid (Calls Tryz.prog 31 #[.pointer (some ⟨D.d, 0, none⟩), .int .i64 q.1, .slice (some ⟨g, 0, none⟩) 512 c] w.drew fun e w' => e = .returned (.int .i64 (D.abs.takeE [some q])) ∧ ∃ D', Disk w' D' ∧ Mv w D w' D' ∧ Al w.heap.size D D' ∧ D'.abs = D.abs.take [some q]) := by
    refine (write_job w.drew D (h.on hb) q.1 g c q.2 (h4.on hb) h9 h5 hr).mono ?_
    rintro e w' ⟨rfl, D', hD, hm, ha, he⟩
    exact ⟨rfl, D', hD, (mv_on w w.drew D hb).trans hm, ha, he⟩
  obtain ⟨q0, q1, q2⟩ := hs.cells
  have q3 : w.cell? ⟨s, 0, none⟩ = some (.pointer (some ⟨p, 0, none⟩)) := by rw [cell_of_row _ _ _ _ _ _ h1]; rfl
  have q4 : w.cell? ⟨n, 0, none⟩ = some (.int .i64 q.1) := by rw [cell_of_row _ _ _ _ _ _ h2]; rfl
  have q5 : w.cell? ⟨b, 0, none⟩ = some (.slice (some ⟨g, 0, none⟩) 512 c) := by rw [cell_of_row _ _ _ _ _ _ h3]; rfl
  clear h hs h1 h2 h3 h4 h9 hr q1 q2 hb
  go_enter Tryz.func81, Tryz.ntmps81
  go_wp2
  go_region_law (go_simp; go_at_call 31; refine HC.out.mono ?_; rintro e w' ⟨rfl, hD⟩; have HD : Hid (∃ D', Disk w' D' ∧ Mv w D w' D' ∧ Al w.heap.size D D' ∧ D'.abs = D.abs.take [some q]) := hD; clear hD)
  all_goals
    go_wp2
    go_ret
    exact ⟨rfl, HD.out⟩
end Go.Proofs.YtamlbpbhlgmcoaaGreatDoor

namespace Go.Proofs.YtamlbpbhlgmcoaaGreatDoor
open Go.RowKit Rec

def jobFn : WA → Nat
  | none => 82
  | some _ => 81
def jobArgs : Value → Array Value
  | .func _ _ a => a
  | _ => #[]
/-- the disk behind some of the steps -/
structure DoneAt (w : World) (D : Dk) (wr : World) (E : Dk) (acts : List WA) : Prop where
  disk : Disk wr E
  mv : Mv w D wr E
  al : Al w.heap.size D E
  abs : E.abs = D.abs.take acts
theorem take_more (a : AD) (acts : List WA) (k : Nat) (t : WA) (ht : acts[k]? = some t) (h0 : a.takeE (acts.take k) = 0) : a.take (acts.take (k + 1)) = (a.take (acts.take k)).take [t] ∧ a.takeE (acts.take (k + 1)) = (a.take (acts.take k)).takeE [t] := by
  have e : acts.take (k + 1) = acts.take k ++ [t] := by rw [List.take_add_one, ht]; rfl
  rw [e]
  exact (take_append a (acts.take k) [t]).1 h0
theorem take_stop (a : AD) (acts : List WA) (k : Nat) (h0 : a.takeE (acts.take k) ≠ 0) : a.take acts = a.take (acts.take k) ∧ a.takeE acts = a.takeE (acts.take k) := by
  have := (take_append a (acts.take k) (acts.drop k)).2 h0
  rwa [List.take_append_drop] at this
theorem DoneAt.next {w : World} {D : Dk} {wr w' : World} {E E' : Dk} {acts : List WA} {k : Nat} {t : WA} (h : DoneAt w D wr E (acts.take k)) (h0 : D.abs.takeE (acts.take k) = 0) (ht : acts[k]? = some t) (hd : Disk w' E') (hm : Mv wr E w' E') (ha : Al wr.heap.size E E') (he : E'.abs = E.abs.take [t]) : DoneAt w D w' E' (acts.take (k + 1)) :=
  ⟨hd, h.mv.trans hm, al_trans h.al ha h.mv.fr.size, by rw [(take_more _ acts k t ht h0).1, ← h.abs]; exact he⟩
set_option maxRecDepth 100000 in
set_option maxHeartbeats 4000000 in
theorem carry_any (w : World) (D : Dk) (h : Disk w D) (p : Nat) (v : Value) (fs : List Value) (acts : List WA) (hs : StepsAt w D p v fs acts) (hr : RoomN D.abs acts.length) (hl : acts.length ≤ 1000000) :
    Calls Tryz.prog 49 #[.pointer (some ⟨p, 0, none⟩)] w fun e w' => e = .returned (.int .i64 (D.abs.takeE acts)) ∧ ∃ E, DoneAt w D w' E acts := by
  obtain ⟨a, c, rfl⟩ := own_form hs.own
  obtain ⟨q0, q1, q2⟩ := hs.cells
  have HS : Hid (StepsAt w D p (.slice a acts.length c) fs acts) := hs
  have HR : Hid (RoomN D.abs acts.length) := hr
  have H0 : Hid (DoneAt w D w D (acts.take 0)) := ⟨h, Mv.refl _ _, al_refl _ _, rfl⟩
  obtain ⟨n, hn⟩ : ∃ n, acts.length = n := ⟨_, rfl⟩
  have HN : Hid (acts.length = n) := hn
  rw [hn] at hl q1
  rw [hn] at HS
  clear h hs hr q0 q2 hn
  go_enter Tryz.func49, Tryz.ntmps49
  go_wp2
  clear q1
  go_loopw [11] (fun s wr => ∃ (k : Nat) (E : Dk), k ≤ n ∧ s = .int .i64 k ∧ DoneAt w D wr E (acts.take k) ∧ D.abs.takeE (acts.take k) = 0) (fun s _ => n - (intOf s).toNat)
  case atStart => exact ⟨0, D, Nat.zero_le _, rfl, H0.out, rfl⟩
  case round =>
    obtain ⟨k, E, hk, rfl, hd, h0⟩ := hrel
    have HE : Hid (DoneAt w D wr E (acts.take k) ∧ D.abs.takeE (acts.take k) = 0) := ⟨hd, h0⟩
    clear hd h0
    by_cases hlt : k < n
    · have hkl : k < acts.length := by rw [HN.out]; exact hlt
      obtain ⟨g, rfl⟩ : ∃ g, a = some ⟨g, 0, none⟩ := by
        obtain ⟨g, c', e⟩ := own_some HS.out.own (by omega)
        cases e; exact ⟨g, rfl⟩
      have HSr : Hid (StepsAt wr E p (.slice (some ⟨g, 0, none⟩) n c) fs acts) := HS.out.mv HE.out.1.mv
      obtain ⟨t, ht⟩ : ∃ t, acts[k]? = some t := ⟨acts[k], List.getElem?_eq_getElem hkl⟩
      obtain ⟨f, hf, hj⟩ := HSr.out.jobs k t ht
      have c0 : wr.cell? ⟨g, k, none⟩ = some f := by
        have := HSr.out.own.cells (g := g) rfl k f hf
        rw [Addr.add_lit] at this
        simpa using this
      have HRo : Hid (RoomD E.abs) := by
        have e : E.abs = D.abs.take (acts.take k) := HE.out.1.abs
        have : RoomN (D.abs.take (acts.take k)) 1 := RoomN.take (n := 1) (acts.take k) (HR.out.le (by rw [List.length_take]; omega))
        show RoomD E.abs
        rw [e]
        exact this.room
      have HT : Hid (acts[k]? = some t) := ht
      have HTm : Hid (D.abs.takeE (acts.take (k + 1)) = E.abs.takeE [t]) := by
        have := (take_more D.abs acts k t ht HE.out.2).2
        rw [← HE.out.1.abs] at this
        exact this
      have HF : Hid (Calls Tryz.prog (jobFn t) (jobArgs f) wr fun e w' => e = .returned (.int .i64 (E.abs.takeE [t])) ∧ ∃ E', DoneAt w D w' E' (acts.take (k + 1))) := by
        cases t with
        | none =>
          obtain ⟨s, rfl, h1, h2⟩ := hj
          refine (flush1_job wr E HE.out.1.disk p _ fs acts HSr.out s h1 HRo.out).mono ?_
          rintro e w' ⟨rfl, E', x1, x2, x3, x4⟩
          exact ⟨rfl, E', HE.out.1.next HE.out.2 HT.out x1 x2 x3 x4⟩
        | some q =>
          obtain ⟨s, n', b, g', c', rfl, h1, h2, h3, h4, h5, h6, h7, h8, h9⟩ := hj
          refine (write1_job wr E HE.out.1.disk p _ fs acts HSr.out q s n' b g' c' h1 h2 h3 h4 h5 h9 HRo.out).mono ?_
          rintro e w' ⟨rfl, E', x1, x2, x3, x4⟩
          exact ⟨rfl, E', HE.out.1.next HE.out.2 HT.out x1 x2 x3 x4⟩
      rcases takeE_vals E.abs [t] with hv | hv
      · have HV : Hid (D.abs.takeE (acts.take (k + 1)) = 0) := HTm.out.trans hv
        rw [hv] at HF
        clear hv ht HRo HTm hf HSr
        cases t with
        | none =>
          obtain ⟨s, rfl, _⟩ := hj
          go_wp2_with (go_at_call 82; refine HF.out.mono ?_; rintro e w2 ⟨rfl, E', hd⟩; have HD : Hid (DoneAt w D w2 E' (acts.take (k + 1))) := hd; clear hd)
          go_round
          case rel => exact ⟨k + 1, E', by omega, by go_num, HD.out, HV.out⟩
          case measure => simp [intOf]; omega
        | some q =>
          obtain ⟨s, n', b, g', c', rfl, _⟩ := hj
          go_wp2_with (go_at_call 81; refine HF.out.mono ?_; rintro e w2 ⟨rfl, E', hd⟩; have HD : Hid (DoneAt w D w2 E' (acts.take (k + 1))) := hd; clear hd)
          go_round
          case rel => exact ⟨k + 1, E', by omega, by go_num, HD.out, HV.out⟩
          case measure => simp [intOf]; omega
      · have HV : Hid (D.abs.takeE acts = 30 ∧ D.abs.take acts = D.abs.take (acts.take (k + 1))) := by
          have e : D.abs.takeE (acts.take (k + 1)) = 30 := HTm.out.trans hv
          obtain ⟨e1, e2⟩ := take_stop D.abs acts (k + 1) (by rw [e]; decide)
          exact ⟨e2.trans e, e1⟩
        rw [hv] at HF
        clear hv ht HRo HTm hf HSr
        cases t with
        | none =>
          obtain ⟨s, rfl, _⟩ := hj
          go_wp2_with (go_at_call 82; refine HF.out.mono ?_; rintro e w2 ⟨rfl, E', hd⟩; have HD : Hid (DoneAt w D w2 E' (acts.take (k + 1))) := hd; clear hd)
          go_ret
          exact ⟨by rw [HV.out.1]; rfl, E', HD.out.disk, HD.out.mv, HD.out.al, by rw [HV.out.2]; exact HD.out.abs⟩
        | some q =>
          obtain ⟨s, n', b, g', c', rfl, _⟩ := hj
          go_wp2_with (go_at_call 81; refine HF.out.mono ?_; rintro e w2 ⟨rfl, E', hd⟩; have HD : Hid (DoneAt w D w2 E' (acts.take (k + 1))) := hd; clear hd)
          go_ret
          exact ⟨by rw [HV.out.1]; rfl, E', HD.out.disk, HD.out.mv, HD.out.al, by rw [HV.out.2]; exact HD.out.abs⟩
    · have e : k = n := by omega
      have et : acts.take k = acts := by rw [e, ← HN.out, List.take_length]
      rw [et] at HE
      clear et
      go_wp2
      go_ret
      exact ⟨by rw [HE.out.2]; rfl, E, HE.out.1⟩
end Go.Proofs.YtamlbpbhlgmcoaaGreatDoor

namespace Go.Proofs.YtamlbpbhlgmcoaaGreatDoor
open Go.RowKit Rec

/-- a block that is handed in: its number, where its bytes lie, its bytes -/
structure Bk where
  n : Int
  g : Nat
  c : Nat
  x : List Int
def Bk.v (q : Bk) : Value := .slice (some ⟨q.g, 0, none⟩) 512 q.c
def nsB (L : List Bk) : List Int := L.map Bk.n
def dsB (L : List Bk) : List (List Int) := L.map Bk.x
structure BlocksAt (w : World) (b : Nat) (L : List Bk) : Prop where
  at_ : ∀ (i : Nat) (q : Bk), L[i]? = some q → w.cell? ⟨b, i * 2, none⟩ = some (.int .i64 q.n) ∧ w.cell? ⟨b, i * 2 + 1, none⟩ = some q.v ∧ BlkAt w q.g q.x
theorem BlocksAt.on {w w' : World} {b : Nat} {L : List Bk} (h : BlocksAt w b L) (x : Below w.heap.size w w') : BlocksAt w' b L :=
  ⟨fun i q hq => by
    obtain ⟨h1, h2, h3⟩ := h.at_ i q hq
    exact ⟨(x.cell (block_lt_of_cell h1)).trans h1, (x.cell (block_lt_of_cell h2)).trans h2, h3.on x⟩⟩
structure ApAt (w0 wr : World) (L : List Bk) (j : Nat) (s2 s3 : Value) : Prop where
  nums : wr.ownsRow 0 3 1 s2 j ((nsB (L.take j)).map (Value.int .i64))
  rows : wr.ownsRow 0 37 1 s3 j ((L.take j).map Bk.v)
  far2 : ∀ k, s2.ownBlock = some k → w0.heap.size ≤ k
  far3 : ∀ k, s3.ownBlock = some k → w0.heap.size ≤ k
  bel : Below w0.heap.size w0 wr
theorem ApAt.on {w0 wr w' : World} {L : List Bk} {j : Nat} {s2 s3 : Value} (h : ApAt w0 wr L j s2 s3) (hb : Below wr.heap.size wr w') : ApAt w0 w' L j s2 s3 :=
  ⟨owns_on h.nums hb, owns_on h.rows hb, h.far2, h.far3, h.bel.trans (hb.mono h.bel.size)⟩
theorem ApAt.start {w0 : World} {L : List Bk} : ApAt w0 w0 L 0 (.slice none 0 0) (.slice none 0 0) :=
  ⟨⟨rfl, .inl ⟨rfl, rfl⟩⟩, ⟨rfl, .inl ⟨rfl, rfl⟩⟩, (fun k h => by cases h), (fun k h => by cases h), Below.refl _ _⟩
structure ApMid (w0 wr : World) (L : List Bk) (j : Nat) (s2 s3 : Value) : Prop where
  nums : wr.ownsRow 0 3 1 s2 (j + 1) ((nsB (L.take (j + 1))).map (Value.int .i64))
  rows : wr.ownsRow 0 37 1 s3 j ((L.take j).map Bk.v)
  far2 : ∀ k, s2.ownBlock = some k → w0.heap.size ≤ k
  far3 : ∀ k, s3.ownBlock = some k → w0.heap.size ≤ k
  bel : Below w0.heap.size w0 wr
theorem ApMid.on {w0 wr w' : World} {L : List Bk} {j : Nat} {s2 s3 : Value} (h : ApMid w0 wr L j s2 s3) (hb : Below wr.heap.size wr w') : ApMid w0 w' L j s2 s3 :=
  ⟨owns_on h.nums hb, owns_on h.rows hb, h.far2, h.far3, h.bel.trans (hb.mono h.bel.size)⟩
theorem take_bk {L : List Bk} {j : Nat} {q : Bk} (hq : L[j]? = some q) : L.take (j + 1) = L.take j ++ [q] := by rw [List.take_add_one, hq]; rfl
theorem ApAt.mid {w0 wr w' : World} {L : List Bk} {j g cap : Nat} {s2 s3 : Value} {q : Bk} (h : ApAt w0 wr L j s2 s3) (hq : L[j]? = some q) (ho : w'.ownsRow 0 3 1 (.slice (some ⟨g, 0, none⟩) (j + 1) cap) (j + 1) ((nsB (L.take j) ++ [q.n]).map (Value.int .i64))) (hf : Fr (fun k => s2.ownBlock = some k) wr w') (hg : s2.ownBlock = some g ∨ wr.heap.size ≤ g) :
    ApMid w0 w' L j (.slice (some ⟨g, 0, none⟩) (j + 1) cap) s3 := by
  refine ⟨?_, owns_fr h.rows hf (fun k hk => own_apart h.rows h.nums (by decide) k hk), fun k hk => ?_, h.far3, h.bel.trans (hf.below _ h.far2 h.bel.size)⟩
  · rw [take_bk hq]; unfold nsB at ho ⊢; simpa using ho
  · cases hk
    rcases hg with e | e
    · exact h.far2 _ e
    · exact Nat.le_trans h.bel.size e
theorem ApMid.next {w0 wr w' : World} {L : List Bk} {j g cap : Nat} {s2 s3 : Value} {q : Bk} (h : ApMid w0 wr L j s2 s3) (hq : L[j]? = some q) (ho : w'.ownsRow 0 37 1 (.slice (some ⟨g, 0, none⟩) (j + 1) cap) (j + 1) ((L.take j).map Bk.v ++ [.slice (some ⟨q.g, 0, none⟩) 512 q.c])) (hf : Fr (fun k => s3.ownBlock = some k) wr w') (hg : s3.ownBlock = some g ∨ wr.heap.size ≤ g) :
    ApAt w0 w' L (j + 1) s2 (.slice (some ⟨g, 0, none⟩) (j + 1) cap) := by
  refine ⟨owns_fr h.nums hf (fun k hk => own_apart h.nums h.rows (by decide) k hk), ?_, h.far2, fun k hk => ?_, h.bel.trans (hf.below _ h.far3 h.bel.size)⟩
  · rw [take_bk hq, List.map_append]; exact ho
  · cases hk
    rcases hg with e | e
    · exact h.far3 _ e
    · exact Nat.le_trans h.bel.size e
set_option maxRecDepth 100000 in
set_option maxHeartbeats 4000000 in
theorem apart_any (w : World) (b n c : Nat) (L : List Bk) (hL : BlocksAt w b L) (hn : L.length = n) (h0 : 0 < n) (hl : n ≤ 1000000) :
    Calls Tryz.prog 42 #[.slice (some ⟨b, 0, none⟩) n c] w fun e w' => ∃ s2 s3, e = .returned (.tuple #[s2, s3]) ∧ ApAt w w' L n s2 s3 := by
  have HL : Hid (BlocksAt w b L) := hL
  have HN : Hid (L.length = n) := hn
  clear hL hn
  go_enter Tryz.func42, Tryz.ntmps42
  go_wp2
  go_loopw [2, 3, 8] (fun s2 s3 s8 wr => ∃ j : Nat, j ≤ n ∧ s8 = .int .i64 j ∧ ApAt w wr L j s2 s3) (fun _ _ s8 _ => n - (intOf s8).toNat)
  case atStart => exact ⟨0, Nat.zero_le _, rfl, ApAt.start⟩
  case round =>
    obtain ⟨j, hj, rfl, hA⟩ := hrel
    have HA : Hid (ApAt w wr L j u2 u3) := hA
    clear hA
    by_cases hlt : j < n
    · obtain ⟨q, hq⟩ : ∃ q, L[j]? = some q := ⟨L[j]'(by rw [HN.out]; exact hlt), List.getElem?_eq_getElem _⟩
      obtain ⟨c1, c2, c3⟩ := (HL.out.on HA.out.bel).at_ j q hq
      have c2' : wr.cell? ⟨b, j * 2 + 1, none⟩ = some (.slice (some ⟨q.g, 0, none⟩) 512 q.c) := c2
      obtain ⟨w1, hw1⟩ : ∃ w1, w1 = wr.alloc (.cells #[.int .i64 q.n, .slice (some ⟨q.g, 0, none⟩) 512 q.c] 58) := ⟨_, rfl⟩
      obtain ⟨b1, r1⟩ := rows1 wr #[.int .i64 q.n, .slice (some ⟨q.g, 0, none⟩) 512 q.c] 58
      rw [← hw1] at b1 r1
      have HA1 : Hid (ApAt w w1 L j u2 u3) := HA.out.on b1
      have HR1 : Hid (w1.heap[wr.heap.size]? = some (.cells #[.int .i64 q.n, .slice (some ⟨q.g, 0, none⟩) 512 q.c] 58 (0, 0))) := r1
      have HQ : Hid (L[j]? = some q) := hq
      clear c2 c3 hq
      go_upto_region 4 with fail
      rw [← hw1]
      clear hw1 c1 c2'
      have d1 : w1.cell? ⟨wr.heap.size, 0, none⟩ = some (.int .i64 q.n) := by rw [cell_of_row _ _ _ _ _ _ r1]; rfl
      clear r1 b1
      have HB1 : Hid (Below w1.heap.size w1 (w1.alloc (.cells #[.int .i64 q.n] 3))) := (Below.refl _ _).alloc (Nat.le_refl _) _
      have HN2 : Hid (∀ m, m < [q.n].length → (w1.alloc (.cells #[.int .i64 q.n] 3)).cell? ((⟨w1.heap.size, 0, none⟩ : Addr).add m) = some (.int .i64 (nth [q.n] m))) := fun m hm => by
        have : m = 0 := by simpa using hm
        subst this
        rw [Addr.add_lit, cell_of_row _ _ _ _ _ _ (heap_alloc_new _ _)]; rfl
      go_upto_region 5 with (at_builtin; refine wp_iown rfl (.tmp 12) (.tmp 15) rfl u2 j (nsB (L.take j)) rfl (HA1.out.on HB1.out).nums ⟨w1.heap.size, 0, none⟩ 1 1 [q.n] rfl (by omega) rfl HN2.out (by omega) ?_; intro g2 cap2 w2 ho hf hg; have H2 : Hid (ApMid w w2 L j (.slice (some ⟨g2, 0, none⟩) (j + 1) cap2) u3 ∧ w2.heap[wr.heap.size]? = some (.cells #[.int .i64 q.n, .slice (some ⟨q.g, 0, none⟩) 512 q.c] 58 (0, 0))) := ⟨(HA1.out.on HB1.out).mid HQ.out ho hf hg, hf.heap ((HB1.out.block _ (heap_lt HR1.out)).trans HR1.out) (own_apartR (HA1.out.on HB1.out).nums ((HB1.out.block _ (heap_lt HR1.out)).trans HR1.out) (by decide))⟩; clear ho hf hg)
      have d2 : w2.cell? ⟨wr.heap.size, 1, none⟩ = some (.slice (some ⟨q.g, 0, none⟩) 512 q.c) := by rw [cell_of_row _ _ _ _ _ _ H2.out.2]; rfl
      clear d1
      have HB2 : Hid (Below w2.heap.size w2 (w2.alloc (.cells #[.slice (some ⟨q.g, 0, none⟩) 512 q.c] 37))) := (Below.refl _ _).alloc (Nat.le_refl _) _
      go_wp2_with (at_builtin; refine wp_sown rfl (.tmp 17) (.tmp 20) rfl u3 j ((L.take j).map Bk.v) rfl (H2.out.1.on HB2.out).rows ⟨w2.heap.size, 0, none⟩ 1 1 [.slice (some ⟨q.g, 0, none⟩) 512 q.c] rfl (by omega) rfl (news1 w2 _) (fun u hu => by simp at hu; subst hu; rfl) (by omega) ?_; intro g3 cap3 w3 ho hf hg; have H3 : Hid (ApAt w w3 L (j + 1) (.slice (some ⟨g2, 0, none⟩) (j + 1) cap2) (.slice (some ⟨g3, 0, none⟩) (j + 1) cap3)) := (H2.out.1.on HB2.out).next HQ.out ho hf hg; clear ho hf hg)
      go_round
      case rel => exact ⟨j + 1, by omega, by go_num, H3.out⟩
      case measure => simp [intOf]; omega
    · have e : j = n := by omega
      subst e
      go_wp2
      go_ret2
      exact ⟨_, _, rfl, HA.out⟩
end Go.Proofs.YtamlbpbhlgmcoaaGreatDoor

namespace Go.Proofs.YtamlbpbhlgmcoaaGreatDoor
open Go.RowKit Rec

/-- steps that are being laid; what they lie in is new (from B on), the disk is not -/
structure Stp (B : Nat) (w : World) (D : Dk) (p : Nat) (acts : List WA) : Prop where
  at_ : ∃ v fs, StepsAt w D p v fs acts ∧ ∀ k, v.ownBlock = some k → B ≤ k
  p : B ≤ p
  b : B ≤ w.heap.size
  d : ∀ k, D.has k → k < B
theorem Stp.on {B : Nat} {w w' : World} {D : Dk} {p : Nat} {acts : List WA} (h : Stp B w D p acts) (hb : Below w.heap.size w w') : Stp B w' D p acts := by
  obtain ⟨v, fs, h1, h2⟩ := h.at_
  exact ⟨⟨v, fs, h1.on hb, h2⟩, h.p, Nat.le_trans h.b hb.size, h.d⟩
theorem stp_write (B : Nat) (w : World) (D : Dk) (p : Nat) (acts : List WA) (h : Stp B w D p acts) (i g c : Nat) (x : List Int) (hx : BlkAt w g x) (hg : ¬ D.has g) (hi : i < D.nb) (hl : acts.length + 1 ≤ 1000000) :
    Calls Tryz.prog 45 #[.pointer (some ⟨p, 0, none⟩), .int .i64 i, .slice (some ⟨g, 0, none⟩) 512 c] w fun e w' => e = .returned (.tuple #[]) ∧ Stp B w' D p (acts ++ [some (i, x)]) ∧ Below B w w' := by
  obtain ⟨v, fs, h1, h2⟩ := h.at_
  refine (swrite_any B w D h.d p v fs acts h1 h.p h2 h.b i g c x hx hg hi hl).mono ?_
  rintro e w' ⟨rfl, v', f, x1, x2, x3⟩
  exact ⟨rfl, ⟨⟨v', _, x1, x2⟩, h.p, Nat.le_trans h.b x3.size, h.d⟩, x3⟩
theorem stp_flush (B : Nat) (w : World) (D : Dk) (p : Nat) (acts : List WA) (h : Stp B w D p acts) (hl : acts.length + 1 ≤ 1000000) :
    Calls Tryz.prog 46 #[.pointer (some ⟨p, 0, none⟩)] w fun e w' => e = .returned (.tuple #[]) ∧ Stp B w' D p (acts ++ [none]) ∧ Below B w w' := by
  obtain ⟨v, fs, h1, h2⟩ := h.at_
  refine (sflush_any B w D h.d p v fs acts h1 h.p h2 h.b hl).mono ?_
  rintro e w' ⟨rfl, v', f, x1, x2, x3⟩
  exact ⟨rfl, ⟨⟨v', _, x1, x2⟩, h.p, Nat.le_trans h.b x3.size, h.d⟩, x3⟩
set_option maxRecDepth 100000 in
set_option maxHeartbeats 1600000 in
theorem stp_header (B : Nat) (w : World) (D : Dk) (p : Nat) (acts : List WA) (h : Stp B w D p acts) (g c : Nat) (x : List Int) (hx : BlkAt w g x) (hg : ¬ D.has g) (hi : 1 < D.nb) (hl : acts.length + 2 ≤ 1000000) :
    Calls Tryz.prog 47 #[.pointer (some ⟨p, 0, none⟩), .slice (some ⟨g, 0, none⟩) 512 c] w fun e w' => e = .returned (.tuple #[]) ∧ Stp B w' D p (acts ++ [some (1, x), none]) ∧ Below B w w' := by
  have HW : Hid (Calls Tryz.prog 45 #[.pointer (some ⟨p, 0, none⟩), .int .i64 1, .slice (some ⟨g, 0, none⟩) 512 c] w fun e w' => e = .returned (.tuple #[]) ∧ Stp B w' D p (acts ++ [some (1, x)]) ∧ Below B w w') := stp_write B w D p acts h 1 g c x hx hg hi (by omega)
  have HF : Hid (∀ w', Stp B w' D p (acts ++ [some (1, x)]) → Calls Tryz.prog 46 #[.pointer (some ⟨p, 0, none⟩)] w' fun e w'' => e = .returned (.tuple #[]) ∧ Stp B w'' D p (acts ++ [some (1, x), none]) ∧ Below B w' w'') := fun w' h' => by
    have := stp_flush B w' D p _ h' (by rw [List.length_append]; simp; omega)
    rwa [List.append_assoc] at this
  clear h hx hg
  go_enter Tryz.func47, Tryz.ntmps47
  go_wp2_with (first
    | (go_at_call 45; refine HW.out.mono ?_; rintro e w1 ⟨rfl, h1, b1⟩; have H1 : Hid (Stp B w1 D p (acts ++ [some (1, x)]) ∧ Below B w w1) := ⟨h1, b1⟩; clear h1 b1)
    | (go_at_call 46; refine (HF.out _ H1.out.1).mono ?_; rintro e w2 ⟨rfl, h1, b1⟩; have H2 : Hid (Stp B w2 D p (acts ++ [some (1, x), none]) ∧ Below B w w2) := ⟨h1, H1.out.2.trans b1⟩; clear h1 b1))
  go_end0
  exact ⟨rfl, H2.out⟩
/-- numbers and blocks in rows -/
structure Lists (w : World) (D : Dk) (a da k : Nat) (ns : List Int) (ds : List (List Int)) : Prop where
  nums : ∀ i, i < k → w.cell? ⟨a, i, none⟩ = some (.int .i64 (nth ns i)) ∧ 0 ≤ nth ns i ∧ nth ns i < D.nb
  rows : ∀ i, i < k → ∃ g c, w.cell? ⟨da, i, none⟩ = some (.slice (some ⟨g, 0, none⟩) 512 c) ∧ BlkAt w g (row ds i) ∧ ¬ D.has g
  nl : ns.length = k
  dl : ds.length = k
theorem Lists.on {w w' : World} {D : Dk} {a da k : Nat} {ns : List Int} {ds : List (List Int)} (h : Lists w D a da k ns ds) (x : Below w.heap.size w w') : Lists w' D a da k ns ds :=
  ⟨fun i hi => by obtain ⟨h1, h2⟩ := h.nums i hi; exact ⟨(x.cell (block_lt_of_cell h1)).trans h1, h2⟩, fun i hi => by obtain ⟨g, c, h1, h2, h3⟩ := h.rows i hi; exact ⟨g, c, (x.cell (block_lt_of_cell h1)).trans h1, h2.on x, h3⟩, h.nl, h.dl⟩
set_option maxRecDepth 100000 in
set_option maxHeartbeats 4000000 in
theorem home_any (B : Nat) (w : World) (D : Dk) (p : Nat) (acts : List WA) (h : Stp B w D p acts) (a nc da dc k : Nat) (ns : List Int) (ds : List (List Int)) (hL : ∀ wx, Below B w wx → Lists wx D a da k ns ds) (h98 : 1 < D.nb) (hl : acts.length + k + 3 ≤ 1000000) :
    Calls Tryz.prog 48 #[.pointer (some ⟨p, 0, none⟩), .slice (some ⟨a, 0, none⟩) k nc, .slice (some ⟨da, 0, none⟩) k dc] w fun e w' => e = .returned (.tuple #[]) ∧ Stp B w' D p (acts ++ homeA (homes ns ds)) ∧ Below B w w' := by
  have HL : Hid (∀ wx, Below B w wx → Lists wx D a da k ns ds) := hL
  have HHl : Hid ((homes ns ds).length = k) := by
    have := hL w (Below.refl _ _)
    show _ = _
    rw [homes_length ns ds (by rw [this.nl, this.dl]), this.nl]
  have H0 : Hid (Stp B w D p (acts ++ ((homes ns ds).take 0).map some)) := by
    show Stp B w D p (acts ++ ((homes ns ds).take 0).map some)
    simpa using h
  clear hL h
  go_enter Tryz.func48, Tryz.ntmps48
  go_wp2
  go_loopw [10] (fun s wr => ∃ j : Nat, j ≤ k ∧ s = .int .i64 j ∧ Stp B wr D p (acts ++ ((homes ns ds).take j).map some) ∧ Below B w wr) (fun s _ => k - (intOf s).toNat)
  case atStart => exact ⟨0, Nat.zero_le _, rfl, H0.out, Below.refl _ _⟩
  case round =>
    obtain ⟨j, hj, rfl, hs, hb⟩ := hrel
    have HS : Hid (Stp B wr D p (acts ++ ((homes ns ds).take j).map some) ∧ Below B w wr) := ⟨hs, hb⟩
    clear hs hb
    by_cases hlt : j < k
    · obtain ⟨n1, n2, n3⟩ := (HL.out _ HS.out.2).nums j hlt
      obtain ⟨g, c, r1, r2, r3⟩ := (HL.out _ HS.out.2).rows j hlt
      obtain ⟨m, hm⟩ : ∃ m : Nat, nth ns j = (m : Int) := ⟨(nth ns j).toNat, by omega⟩
      have HT : Hid ((homes ns ds).take (j + 1) = (homes ns ds).take j ++ [(m, row ds j)]) := by
        show _ = _
        rw [List.take_add_one, List.getElem?_eq_getElem (by rw [HHl.out]; exact hlt), homes_get, hm]; rfl
      have HW : Hid (Calls Tryz.prog 45 #[.pointer (some ⟨p, 0, none⟩), .int .i64 m, .slice (some ⟨g, 0, none⟩) 512 c] wr fun e w' => e = .returned (.tuple #[]) ∧ Stp B w' D p (acts ++ ((homes ns ds).take (j + 1)).map some) ∧ Below B w w') := by
        refine (stp_write B wr D p _ HS.out.1 m g c _ r2 r3 (by omega) (by rw [List.length_append, List.length_map, List.length_take]; omega)).mono ?_
        rintro e w' ⟨rfl, x1, x2⟩
        refine ⟨rfl, ?_, HS.out.2.trans x2⟩
        rw [HT.out, List.map_append, ← List.append_assoc]
        exact x1
      rw [hm] at n1
      clear n2 n3 r2 r3 hm HT
      go_wp2_with (go_at_call 45; refine HW.out.mono ?_; rintro e w1 ⟨rfl, h1, b1⟩; have H1 : Hid (Stp B w1 D p (acts ++ ((homes ns ds).take (j + 1)).map some) ∧ Below B w w1) := ⟨h1, b1⟩; clear h1 b1)
      go_round
      case rel => exact ⟨j + 1, by omega, by go_num, H1.out⟩
      case measure => simp [intOf]; omega
    · have e : j = k := by omega
      have HS2 : Hid (Stp B wr D p (acts ++ (homes ns ds).map some) ∧ Below B w wr) := by
        have := HS.out
        rw [e, ← HHl.out, List.take_length] at this
        exact this
      have hl2 : (acts ++ (homes ns ds).map some).length + 3 ≤ 1000000 := by rw [List.length_append, List.length_map, HHl.out]; omega
      have HF : Hid (Calls Tryz.prog 46 #[.pointer (some ⟨p, 0, none⟩)] wr fun e w' => e = .returned (.tuple #[]) ∧ Stp B w' D p ((acts ++ (homes ns ds).map some) ++ [none]) ∧ Below B wr w') := stp_flush B wr D p _ HS2.out.1 (by omega)
      have HH : Hid (∀ w' g c, Stp B w' D p ((acts ++ (homes ns ds).map some) ++ [none]) → BlkAt w' g zs → B ≤ g → Calls Tryz.prog 47 #[.pointer (some ⟨p, 0, none⟩), .slice (some ⟨g, 0, none⟩) 512 c] w' fun e w'' => e = .returned (.tuple #[]) ∧ Stp B w'' D p (acts ++ homeA (homes ns ds)) ∧ Below B w' w'') := fun w' g c h1 h2 h3 => by
        have := stp_header B w' D p _ h1 g c zs h2 (fun e => by have := h1.d _ e; omega) h98 (by rw [List.length_append]; simp; simp at hl2; omega)
        have e : acts ++ (homes ns ds).map some ++ [none] ++ [some (1, zs), none] = acts ++ homeA (homes ns ds) := by unfold homeA; simp only [List.append_assoc, List.singleton_append]
        rwa [e] at this
      clear hl2 HS
      go_wp2_with (first
        | (go_at_call 46; refine HF.out.mono ?_; rintro e w1 ⟨rfl, h1, b1⟩; have H1 : Hid (Stp B w1 D p ((acts ++ (homes ns ds).map some) ++ [none]) ∧ Below B w w1) := ⟨h1, HS2.out.2.trans b1⟩; clear h1 b1)
        | (go_at_call 59; refine (empty_any _).mono ?_; rintro e w2 ⟨g, rfl, ho, hg, hb⟩; have H2 : Hid (Stp B w2 D p ((acts ++ (homes ns ds).map some) ++ [none]) ∧ Below B w w2 ∧ BlkAt w2 g zs ∧ B ≤ g) := ⟨H1.out.1.on hb, H1.out.2.trans (hb.mono H1.out.1.b), BlkAt.of ho zs_length, Nat.le_trans H1.out.1.b hg⟩; clear ho hg hb)
        | (go_at_call 47; refine (HH.out _ _ _ H2.out.1 H2.out.2.2.1 H2.out.2.2.2).mono ?_; rintro e w3 ⟨rfl, h1, b1⟩; have H3 : Hid (Stp B w3 D p (acts ++ homeA (homes ns ds)) ∧ Below B w w3) := ⟨h1, H2.out.2.1.trans b1⟩; clear h1 b1))
      go_end0
      exact ⟨rfl, H3.out⟩
end Go.Proofs.YtamlbpbhlgmcoaaGreatDoor

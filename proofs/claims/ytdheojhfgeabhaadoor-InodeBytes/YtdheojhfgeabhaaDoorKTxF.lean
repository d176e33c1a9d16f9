import Derived.Test.YtdheojhfgeabhaaDoorTxY
import Derived.Test.YtdheojhfgeabhaaDoorKADo
namespace Go.Proofs.YtdheojhfgeabhaaDoor
open Go.RowKit Go.Maps Rec

/-- what block i of a fresh disk is full of -/
def v6 (i : Nat) : Int := if 0 < i ∧ i < 98 then 0 else (i : Int)
def fr6 (m : Nat) : List Int := (List.range m).flatMap (fun i : Nat => one (v6 i))
theorem fr6_succ (m : Nat) : fr6 (m + 1) = fr6 m ++ one (v6 m) := by
  unfold fr6
  rw [List.range_succ, List.flatMap_append]; simp
theorem fr6_length (m : Nat) : (fr6 m).length = 512 * m := by
  induction m with
  | zero => rfl
  | succ m ih => rw [fr6_succ, List.length_append, ih, one_length]; omega
theorem nth_fr6 (m i : Nat) (h : i < 512 * m) : nth (fr6 m) i = v6 (i / 512) := by
  induction m with
  | zero => omega
  | succ m ih =>
    rw [fr6_succ, nth_app, fr6_length]
    by_cases h2 : i < 512 * m
    · rw [if_pos h2]; exact ih h2
    · rw [if_neg h2, one, nth_rep _ _ _ (by omega), show i / 512 = m by omega]
theorem v6_wf (i : Nat) (h : i < 256) : 0 ≤ v6 i ∧ v6 i < 256 := by unfold v6; split <;> omega
theorem wf_fr6 (m : Nat) (hm : m ≤ 256) : ∀ i, 0 ≤ nth (fr6 m) i ∧ nth (fr6 m) i < 256 := fun i => by
  by_cases h : i < 512 * m
  · rw [nth_fr6 m i h]; exact v6_wf _ (by omega)
  · rw [nth_out _ _ (by rw [fr6_length]; omega)]; omega
theorem bck_fr6 (m i : Nat) (hi : i < m) : bck (fr6 m) i = one (v6 i) := by
  refine ext_nth (by rw [blk_length (fr6_length m) hi, one_length]) fun j hj => ?_
  rw [blk_length (fr6_length m) hi] at hj
  rw [nth_blk (fr6_length m) hi j hj, nth_fr6 m _ (by omega), one, nth_rep _ _ _ hj, show (512 * i + j) / 512 = i by omega]
theorem Fresh.rest {a : AD} {nb : Nat} {l : List Int} (h : Fresh a nb l) (h1 : bck l 1 = zs) : Rest a nb l := ⟨h.size, h.las, h.pen, h.down, h.at_, h.len, h1⟩
end Go.Proofs.YtdheojhfgeabhaaDoor

namespace Go.Proofs.YtdheojhfgeabhaaDoor
open Go.RowKit Go.Maps Rec

/-- a disk and a transaction on it -/
structure Ses (w0 w : World) (D : Dk) (T : Tx) : Prop where
  dk : Mine w0 w D
  tx : TxAt w T
  d : D.d = T.d
  nb : D.nb = T.nb
  ap1 : ∀ k, T.all k → ¬ D.has k
  ap2 : ∀ k, T.has k → ¬ D.all k
  far : ∀ k, T.all k → w0.heap.size ≤ k
theorem Ses.on {w0 w w' : World} {D : Dk} {T : Tx} (h : Ses w0 w D T) (hb : Below w.heap.size w w') : Ses w0 w' D T := ⟨h.dk.on hb, h.tx.on hb, h.d, h.nb, h.ap1, h.ap2, h.far⟩
theorem Ses.bel {w0 w : World} {D : Dk} {T : Tx} (h : Ses w0 w D T) : Below w0.heap.size w0 w := h.dk.bel
theorem ses_begin {w0 w w' : World} {D : Dk} {T : Tx} (h : Mine w0 w D) (ht : TMine w w' T) (hd : T.d = D.d) (hn : T.nb = D.nb) : Ses w0 w' D T := by
  refine ⟨h.on ht.bel, ht.at_, hd.symm, hn.symm, fun k hk hh => ?_, fun k hk hh => ?_, fun k hk => Nat.le_trans h.bel.size (ht.far k hk)⟩
  · have := h.hasLt k hh
    have := ht.far k hk
    omega
  · have := h.disk.allLt hh
    have := ht.far k (.inl hk)
    omega
theorem Ses.mv {w0 w w' : World} {D : Dk} {T T' : Tx} (h : Ses w0 w D T) (ht : TxAt w' T') (hm : TMv w T w' T') : Ses w0 w' D T' := by
  refine ⟨⟨h.dk.disk.fr hm.fr (fun k hk hh => h.ap2 k hh hk), h.dk.far, h.dk.bel.trans (hm.fr.below _ (fun k hk => h.far k (.inl hk)) h.dk.bel.size)⟩, ht, h.d.trans hm.d.symm, h.nb.trans hm.nb.symm, fun k hk hh => ?_, fun k hk hh => ?_, fun k hk => ?_⟩
  · rcases hm.al k hk with e | e
    · exact h.ap1 k e hh
    · have := h.dk.hasLt k hh; omega
  · rcases hm.has k hk with e | e
    · exact h.ap2 k e hh
    · have := h.dk.disk.allLt hh; omega
  · rcases hm.al k hk with e | e
    · exact h.far k e
    · exact Nat.le_trans h.dk.bel.size e
/-- the disk moves on -/
theorem Ses.dmv {w0 w w' : World} {D E : Dk} {T : Tx} (h : Ses w0 w D T) (hd : Disk w' E) (hm : Mv w D w' E) (ha : Al w.heap.size D E) : Ses w0 w' E T := by
  refine ⟨h.dk.step hd hm ha, h.tx.fr hm.fr h.ap1, hm.d.trans h.d, hm.nb.trans h.nb, fun k hk hh => ?_, fun k hk hh => ?_, h.far⟩
  · rcases hm.has k hh with e | e
    · exact h.ap1 k hk e
    · have := h.tx.lt hk; omega
  · rcases ha k hh with e | e
    · exact h.ap2 k hk e
    · have := h.tx.lt (.inl hk); omega
theorem lst_ok {c : Cm} {n : Nat} (h : COk c n) (hb : ∀ i q, c i = some q → q.x.length = 512) (h0 : 98 ≤ n) (h1 : n ≤ 16384) (hne : lst c n ≠ []) (hl : (lst c n).length ≤ 96) : ComOk n (nsB (lst c n)) (dsB (lst c n)) := by
  have hp : 0 < (lst c n).length := by
    cases e : lst c n with
    | nil => exact absurd e hne
    | cons a l => simp
  refine ⟨h0, h1, pre_nsB _ (fun q hq => ?_) (lst_ris h) _ (fun q hq => ?_), by simp [nsB]; omega, by simp [nsB]; omega, by simp [nsB, dsB], fun b hb' => ?_⟩
  · obtain ⟨i, hi, e⟩ := lst_mem hq
    rw [h.num i q e]
    have := h.lo i q e
    omega
  · obtain ⟨i, hi, e⟩ := lst_mem hq
    rw [h.num i q e]
    omega
  · simp only [dsB, List.mem_map] at hb'
    obtain ⟨q, hq, rfl⟩ := hb'
    obtain ⟨i, hi, e⟩ := lst_mem hq
    exact hb i q e
theorem ses_write (w0 w : World) (D : Dk) (T : Tx) (S : Ses w0 w D T) (i : Nat) (h0 : 98 ≤ i) (h1 : i < T.nb) (p : Addr) (c : Nat) (x : List Int) (hb : Bytes w (some p) x) (hx : x.length = 512) (hr : (T.c i).isSome = true ∨ (lst T.c T.nb).length < 96) (hu : T.us.length + 1 ≤ 1000000) :
    Calls Tryd.prog 30 #[.pointer (some ⟨T.t, 0, none⟩), .int .i64 (i : Int), .slice (some p) 512 c] w fun e w' => e = .returned (.int .i64 0) ∧ ∃ T' q u, Ses w0 w' D T' ∧ TMv w T w' T' ∧ q.x = x ∧ q.n = (i : Int) ∧ T'.c = ups T.c i (some q) ∧ T'.us = T.us ++ [u] ∧ u.i = i ∧ u.old = T.c i := by
  refine (twrite_ok w T D S.tx S.dk.disk S.d S.nb i h0 h1 p c x hb hx hr hu).mono ?_
  rintro e w' ⟨rfl, T', q, u, h1, h2, h3, h4, h5⟩
  exact ⟨rfl, T', q, u, S.mv h1 h2, h2, h3, h4, h5⟩
end Go.Proofs.YtdheojhfgeabhaaDoor

namespace Go.Proofs.YtdheojhfgeabhaaDoor
open Go.RowKit Go.Maps Rec

theorem homes_lst (L : List Bk) : homes (nsB L) (dsB L) = L.map (fun q => (q.n.toNat, q.x)) := by
  unfold homes nsB dsB
  induction L with
  | nil => rfl
  | cons q L ih => simp only [List.map_cons, List.zipWith_cons_cons, ih]
def overC (c : Cm) (l : List Int) (nb : Nat) : List Int := fw l (homes (nsB (lst c nb)) (dsB (lst c nb)))
theorem lst_of {c : Cm} {n i : Nat} {q : Bk} (hi : i < n) (h : c i = some q) : q ∈ lst c n := List.mem_filterMap.2 ⟨i, List.mem_range.2 hi, h⟩
def valC (c : Cm) (l : List Int) (i : Nat) : List Int := match c i with | some q => q.x | none => bck l i
theorem valC_some {c : Cm} {l : List Int} {i : Nat} {q : Bk} (h : c i = some q) : valC c l i = q.x := by simp [valC, h]
theorem valC_none {c : Cm} {l : List Int} {i : Nat} (h : c i = none) : valC c l i = bck l i := by simp [valC, h]
theorem over_at {c : Cm} {nb : Nat} {l : List Int} (h : COk c nb) (hx : ∀ i q, c i = some q → q.x.length = 512) (hl : l.length = 512 * nb) (i : Nat) (hi : i < nb) : bck (overC c l nb) i = valC c l i := by
  unfold overC
  have hQ : ∀ p ∈ homes (nsB (lst c nb)) (dsB (lst c nb)), ∃ j q, c j = some q ∧ p = (j, q.x) := fun p hp => by
    rw [homes_lst] at hp
    obtain ⟨q, hq, rfl⟩ := List.mem_map.1 hp
    obtain ⟨j, hj, e⟩ := lst_mem hq
    exact ⟨j, q, e, by rw [h.num j q e]; simp⟩
  have h512 : ∀ p ∈ homes (nsB (lst c nb)) (dsB (lst c nb)), p.2.length = 512 := fun p hp => by
    obtain ⟨j, q, e, rfl⟩ := hQ p hp
    exact hx j q e
  cases hc : c i with
  | none =>
    rw [valC_none hc]
    refine bck_fw_out l _ i nb hl h512 hi (fun p hp e => ?_)
    obtain ⟨j, q, e2, rfl⟩ := hQ p hp
    have : j = i := e
    subst this
    rw [hc] at e2; cases e2
  | some q =>
    rw [valC_some hc]
    rcases bck_fw l (homes (nsB (lst c nb)) (dsB (lst c nb))) i nb hl h512 hi with e | ⟨p, hp, e1, e2⟩
    · have hm : ((i, q.x) : Nat × List Int) ∈ homes (nsB (lst c nb)) (dsB (lst c nb)) := by
        rw [homes_lst]
        refine List.mem_map.2 ⟨q, lst_of hi hc, ?_⟩
        rw [h.num i q hc]; simp
      refine bck_fw_in l _ nb hl h512 (fun p hp => ?_) ?_ (i, q.x) hm
      · obtain ⟨j, q', e2, rfl⟩ := hQ p hp
        exact h.hi j q' e2
      · rw [homes_lst]
        refine List.pairwise_map.2 ?_
        refine List.Pairwise.imp_of_mem (fun {a b} ha hb hab => ?_) (lst_ris h)
        obtain ⟨j, hj, ea⟩ := lst_mem ha
        obtain ⟨k, hk, eb⟩ := lst_mem hb
        rw [h.num j a ea, h.num k b eb] at hab
        simp only [h.num j a ea, h.num k b eb, Int.toNat_natCast]
        omega
    · obtain ⟨j, q', e3, rfl⟩ := hQ p hp
      have : j = i := e1
      subst this
      rw [hc] at e3; cases e3
      exact e2
/-- a commit on a disk at rest, not armed -/
theorem commit_math {a e : AD} {c : Cm} {nb : Nat} {l : List Int} (hR : Rest a nb l) (h : COk c nb) (hx : ∀ i q, c i = some q → q.x.length = 512) (h98 : 98 ≤ nb) (h16 : nb ≤ 16384) (h96 : (lst c nb).length ≤ 96) (hne : lst c nb ≠ []) (he : e = a.take (commitA (nsB (lst c nb)) (dsB (lst c nb)))) :
    a.takeE (commitA (nsB (lst c nb)) (dsB (lst c nb))) = 0 ∧ (∃ l', Rest e nb l' ∧ ∀ i, 98 ≤ i → i < nb → bck l' i = valC c l i) ∧ e.wr = a.wr + (2 * (lst c nb).length + 2) ∧ e.fl = a.fl + 4 := by
  have ok := lst_ok h hx h98 h16 hne h96
  obtain ⟨e1, e2, e3⟩ := hR.commit ok
  obtain ⟨w1, w2⟩ := all_wr a (nsB (lst c nb)) (dsB (lst c nb)) (by simp [nsB, dsB])
  rw [he, e2]
  refine ⟨e1, ⟨_, e3, fun i h0 h1 => ?_⟩, by rw [w1]; simp [nsB], w2⟩
  rw [done_like hR.len hR.log ok i h1 (.inr h0)]
  exact over_at h hx hR.len i h1
theorem lst_one (q : Bk) (i n : Nat) (h : i < n) : lst (ups (fun _ => none) i (some q)) n = [q] := by
  rw [lst_ups _ n i _ h, lst_none]
  have : (List.range' (i + 1) (n - i - 1)).filterMap (fun _ : Nat => (none : Option Bk)) = [] := by simp
  rw [this]
  rfl
end Go.Proofs.YtdheojhfgeabhaaDoor

namespace Go.Proofs.YtdheojhfgeabhaaDoor
open Go.RowKit Go.Maps Rec

theorem ptr_nilT (w : World) (p : Addr) : (binOp .eql 43 (.pointer (some p)) (.pointer none)).run Tryd.prog w = .ok (.bool false) w := by
  have h : ∀ d : Nat, (Op.equalIn (d + 1) 43 (.pointer (some p)) (.pointer none)).run Tryd.prog w = .ok false w := fun d => by
    simp [Op.equalIn, run_underlying Tryd.underlying43]
  simp only [binOp]
  simp [Op.equal, Op.maxDepth, h 9999]
/-- behind the commit that is known -/
structure KnE (w w' : World) (d t : Nat) : Prop where
  dk : ∃ E ls, Mine w w' E ∧ E.d = d ∧ Rest E.abs 120 ls ∧ bck ls 98 = one 65 ∧ E.wr = 4 ∧ E.fl = 4
  over : OverAt w' t
theorem begin_ses (w0 w : World) (D : Dk) (hM : Mine w0 w D) (d0 : Nat) (hd : D.d = d0) :
    Calls Tryd.prog 12 #[.pointer (some ⟨d0, 0, none⟩)] w fun e w' => ∃ T, e = .returned (.pointer (some ⟨T.t, 0, none⟩)) ∧ Ses w0 w' D T ∧ T.c = (fun _ => none) ∧ T.us = [] ∧ Below w.heap.size w w' := by
  refine (begin_any w d0 D.nb hM.disk.nb1).mono ?_
  rintro e w' ⟨T, rfl, h1, h2, h3, h4, h5⟩
  exact ⟨T, rfl, ses_begin hM h1 (h2.trans hd.symm) h3, h4, h5, h1.bel⟩
end Go.Proofs.YtdheojhfgeabhaaDoor

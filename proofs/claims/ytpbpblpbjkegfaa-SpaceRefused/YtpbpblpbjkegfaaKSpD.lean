import Derived.Test.YtpbpblpbjkegfaaKSpC
import Derived.Test.YtpbpblpbjkegfaaKTxF
import Derived.Test.YtpbpblpbjkegfaaGeA
namespace Go.Proofs.Ytpbpblpbjkegfaa
open Go.RowKit Go.Maps Rec

/-- what a transaction reads -/
def tv (D : Dk) (T : Tx) (i : Nat) : List Int := match T.c i with | some q => q.x | none => bck D.full i
def bmp (D : Dk) (T : Tx) (k : Nat) : List Int := tv D T (98 + k)
def nM (n : Nat) : Nat := (n + 4095) / 4096
def nD (n : Nat) : Nat := 98 + nM n + n / 64
theorem gI_nat (n : Nat) : gI (n : Int) = ((98 + nM n : Nat) : Int) := by unfold gI nM; omega
theorem gD_nat (n : Nat) : gD (n : Int) = ((nD n : Nat) : Int) := by unfold gD nD; rw [gI_nat]; omega
theorem nM_bd {n : Nat} (h0 : 128 ≤ n) (h1 : n ≤ 16384) : 1 ≤ nM n ∧ nM n ≤ 4 ∧ n ≤ 4096 * nM n ∧ 98 + nM n < nD n ∧ nD n < n ∧ 4096 * nM n ≤ n + 4095 := by unfold nD nM; omega
/-- a session on a disk with a bitmap -/
structure Spc (w0 w : World) (D : Dk) (T : Tx) (n : Nat) : Prop where
  ses : Ses w0 w D T
  dn : D.down = false
  nb : T.nb = n
  lo : 128 ≤ n
  hi : n ≤ 16384
  ok : ∀ i, i < n → (tv D T i).length = 512 ∧ ∀ j, 0 ≤ nth (tv D T i) j ∧ nth (tv D T i) j < 256
theorem Spc.on {w0 w w' : World} {D : Dk} {T : Tx} {n : Nat} (h : Spc w0 w D T n) (hb : Below w.heap.size w w') : Spc w0 w' D T n := ⟨h.ses.on hb, h.dn, h.nb, h.lo, h.hi, h.ok⟩
theorem Spc.bm {w0 w : World} {D : Dk} {T : Tx} {n : Nat} (h : Spc w0 w D T n) : Bm (bmp D T) (nM n) := by
  have := nM_bd h.lo h.hi
  exact ⟨fun k hk => (h.ok (98 + k) (by omega)).1, fun k hk => (h.ok (98 + k) (by omega)).2⟩
theorem Spc.read {w0 w : World} {D : Dk} {T : Tx} {n : Nat} (h : Spc w0 w D T n) (i : Nat) (hi : i < n) :
    Calls Try.prog 12 #[.pointer (some ⟨T.t, 0, none⟩), .int .i64 (i : Int)] w fun e w' => ∃ g cap, e = .returned (.tuple #[.slice (some ⟨g, 0, none⟩) 512 cap, .int .i64 0]) ∧ w.heap.size ≤ g ∧ OwnB w' g cap (tv D T i) ∧ Below w.heap.size w w' :=
  tread_any w T D h.ses.tx h.ses.dk.disk h.ses.d h.ses.nb h.dn i (by rw [h.nb]; exact hi)
theorem BoxI.comp {w1 wr w2 w3 : World} {S : Nat} {z z2 : Int} (h : BoxI w1 S z wr) (hb : Below wr.heap.size wr w2) (h2 : BoxI w2 S z2 w3) : BoxI w1 S z2 w3 := by
  have hs := h.fr.size
  have hs2 := hb.size
  exact ⟨h2.cell, h2.frozen, (h.fr.trans (below_fr hb (fun _ => False)) (fun _ e => e.elim)).trans h2.fr (fun k hk => by rcases hk with e | e; exact .inl (.inl e); exact .inl (.inr (by omega)))⟩
theorem Cau.mv {w w1 wr w2 : World} {G Db S F lo hi : Nat} {z z2 : Int} (h : Cau w G Db S F lo hi z) (hb1 : Below w.heap.size w w1) (hI : BoxI w1 S z2 wr) (hb : Below wr.heap.size wr w2) : Cau w2 G Db S F lo hi z2 := by
  have hG := block_lt_of_cell h.g0
  have hD := block_lt_of_cell h.d
  have hs := hb1.size
  dsimp only at hG hD
  have hf := hI.fr.trans (below_fr hb (fun _ => False)) (fun _ e => e.elim)
  have hl := block_lt_of_cell hI.cell
  refine ⟨hf.cell ((hb1.cell hG).trans h.g0) (fun e => ?_), hf.cell ((hb1.cell (p := ⟨G, 3, none⟩) hG).trans h.g3) (fun e => ?_), hf.cell ((hb1.cell hD).trans h.d) (fun e => ?_), (hb.cell hl).trans hI.cell, (frozen_blk (hb.block S hl)).trans hI.frozen, h.ap1, h.ap2⟩
  · have := h.ap1; dsimp only at e; omega
  · have := h.ap1; dsimp only at e; omega
  · have := h.ap2; dsimp only at e; omega
theorem fd_bd {lo hi : Nat} {B : Nat → List Int} {i : Nat} (h : fd lo hi B i = true) : lo ≤ i ∧ i < hi := by
  simp only [fd, Bool.and_eq_true, decide_eq_true_eq] at h; exact h.1
end Go.Proofs.Ytpbpblpbjkegfaa

namespace Go.Proofs.Ytpbpblpbjkegfaa
open Go.RowKit Go.Maps Rec

theorem homes_lst (L : List Bk) : homes (nsB L) (dsB L) = L.map (fun q => (q.n.toNat, q.x)) := by
  unfold homes nsB dsB
  induction L with
  | nil => rfl
  | cons q L ih => simp only [List.map_cons, List.zipWith_cons_cons, ih]
def overC (c : Cm) (l : List Int) (nb : Nat) : List Int := fw l (homes (nsB (lst c nb)) (dsB (lst c nb)))
theorem lst_of {c : Cm} {n i : Nat} {q : Bk} (hi : i < n) (h : c i = some q) : q ∈ lst c n := List.mem_filterMap.2 ⟨i, List.mem_range.2 hi, h⟩
def valC (c : Cm) (l : List Int) (i : Nat) : List Int := match c i with | some q => q.x | none => bck l i
theorem valC_some {c : Cm} {l : List Int} {i : Nat} {q : Bk} (h : c i = some q) : valC c l i = q.x := by simp [valC, h]
theorem valC_none {c : Cm} {l : List Int} {i : Nat} (h : c i = none) : valC c l i = bck l i := by simp [valC, h]
theorem over_at {c : Cm} {nb : Nat} {l : List Int} (h : COk c nb) (hx : ∀ i q, c i = some q → q.x.length = 512) (hl : l.length = 512 * nb) (i : Nat) (hi : i < nb) : bck (overC c l nb) i = valC c l i := by
  unfold overC
  have hQ : ∀ p ∈ homes (nsB (lst c nb)) (dsB (lst c nb)), ∃ j q, c j = some q ∧ p = (j, q.x) := fun p hp => by
    rw [homes_lst] at hp
    obtain ⟨q, hq, rfl⟩ := List.mem_map.1 hp
    obtain ⟨j, hj, e⟩ := lst_mem hq
    exact ⟨j, q, e, by rw [h.num j q e]; simp⟩
  have h512 : ∀ p ∈ homes (nsB (lst c nb)) (dsB (lst c nb)), p.2.length = 512 := fun p hp => by
    obtain ⟨j, q, e, rfl⟩ := hQ p hp
    exact hx j q e
  cases hc : c i with
  | none =>
    rw [valC_none hc]
    refine bck_fw_out l _ i nb hl h512 hi (fun p hp e => ?_)
    obtain ⟨j, q, e2, rfl⟩ := hQ p hp
    have : j = i := e
    subst this
    rw [hc] at e2; cases e2
  | some q =>
    rw [valC_some hc]
    rcases bck_fw l (homes (nsB (lst c nb)) (dsB (lst c nb))) i nb hl h512 hi with e | ⟨p, hp, e1, e2⟩
    · have hm : ((i, q.x) : Nat × List Int) ∈ homes (nsB (lst c nb)) (dsB (lst c nb)) := by
        rw [homes_lst]
        refine List.mem_map.2 ⟨q, lst_of hi hc, ?_⟩
        rw [h.num i q hc]; simp
      refine bck_fw_in l _ nb hl h512 (fun p hp => ?_) ?_ (i, q.x) hm
      · obtain ⟨j, q', e2, rfl⟩ := hQ p hp
        exact h.hi j q' e2
      · rw [homes_lst]
        refine List.pairwise_map.2 ?_
        refine List.Pairwise.imp_of_mem (fun {a b} ha hb hab => ?_) (lst_ris h)
        obtain ⟨j, hj, ea⟩ := lst_mem ha
        obtain ⟨k, hk, eb⟩ := lst_mem hb
        rw [h.num j a ea, h.num k b eb] at hab
        simp only [h.num j a ea, h.num k b eb, Int.toNat_natCast]
        omega
    · obtain ⟨j, q', e3, rfl⟩ := hQ p hp
      have : j = i := e1
      subst this
      rw [hc] at e3; cases e3
      exact e2
/-- a commit on a disk at rest, not armed -/
theorem commit_math {a e : AD} {c : Cm} {nb : Nat} {l : List Int} (hR : Rest a nb l) (h : COk c nb) (hx : ∀ i q, c i = some q → q.x.length = 512) (h98 : 98 ≤ nb) (h16 : nb ≤ 16384) (h96 : (lst c nb).length ≤ 96) (hne : lst c nb ≠ []) (he : e = a.take (commitA (nsB (lst c nb)) (dsB (lst c nb)))) :
    a.takeE (commitA (nsB (lst c nb)) (dsB (lst c nb))) = 0 ∧ (∃ l', Rest e nb l' ∧ ∀ i, 98 ≤ i → i < nb → bck l' i = valC c l i) ∧ e.wr = a.wr + (2 * (lst c nb).length + 2) ∧ e.fl = a.fl + 4 := by
  have ok := lst_ok h hx h98 h16 hne h96
  obtain ⟨e1, e2, e3⟩ := hR.commit ok
  obtain ⟨w1, w2⟩ := all_wr a (nsB (lst c nb)) (dsB (lst c nb)) (by simp [nsB, dsB])
  rw [he, e2]
  refine ⟨e1, ⟨_, e3, fun i h0 h1 => ?_⟩, by rw [w1]; simp [nsB], w2⟩
  rw [done_like hR.len hR.log ok i h1 (.inr h0)]
  exact over_at h hx hR.len i h1
theorem lst_one (q : Bk) (i n : Nat) (h : i < n) : lst (ups (fun _ => none) i (some q)) n = [q] := by
  rw [lst_ups _ n i _ h, lst_none]
  have : (List.range' (i + 1) (n - i - 1)).filterMap (fun _ : Nat => (none : Option Bk)) = [] := by simp
  rw [this]
  rfl
end Go.Proofs.Ytpbpblpbjkegfaa

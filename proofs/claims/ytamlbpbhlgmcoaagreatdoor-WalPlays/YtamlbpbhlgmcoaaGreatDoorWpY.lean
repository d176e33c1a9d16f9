import Derived.Test.YtamlbpbhlgmcoaaGreatDoorWpX
import Derived.Test.YtamlbpbhlgmcoaaGreatDoorWpQ
import Derived.Test.YtamlbpbhlgmcoaaGreatDoorWpR
import Derived.Test.YtamlbpbhlgmcoaaGreatDoorWpS
import Derived.Test.YtamlbpbhlgmcoaaGreatDoorWpT
namespace Go.Proofs.YtamlbpbhlgmcoaaGreatDoor
open Go.RowKit Rec
/-- an op that is handed in -/
structure OpR where
  k : Int
  la : Option Addr
  ln : Nat
  lc : Nat
  ot : Int
  by_ : Int
  oa : Option Addr
  on_ : Nat
  oc : Nat
  ca : Int
  ka : Option Addr
  kn : Nat
  kc : Nat
  L : List BG
  O : List Int
  K : List Bool
def OpR.cs (q : OpR) : Array Value := #[.int .i64 q.k, .slice q.la q.ln q.lc, .int .i64 q.ot, .int .u8 q.by_, .slice q.oa q.on_ q.oc, .int .i64 q.ca, .slice q.ka q.kn q.kc]
structure OpIn (w : World) (q : OpR) : Prop where
  l : BGs w q.la q.L
  ll : q.L.length = q.ln
  lb : q.ln ≤ 4398046511000
  lx : ∀ p ∈ q.L, p.x.length ≤ 140737488351232
  y : 0 ≤ q.by_ ∧ q.by_ < 256
  o : Bytes w q.oa q.O
  ol : q.O.length = q.on_
  c : q.ca ≤ 9223372036854775807
  b : Bools w (.slice q.ka q.kn q.kc) q.K
  bl : q.K.length = q.kn
  b0 : q.ka = none → q.kc = 0
  bb : q.kn ≤ 140737488351232
theorem wstep_any (w0 w : World) (P : Nat) (D : Dk) (R : RDk) (j : Nat) (tv wv : Value) (B : List TB) (h : Pl w0 w P D R j tv wv B) (hT : TabAt w0) (hj : j + 200 ≤ 100000000) (q : OpR) (hq : OpIn w0 q) :
    Calls Tryz.prog 8 #[.pointer (some ⟨P, 0, none⟩), .agg q.cs] w (StP w0 P (j + 200)) := by
  obtain ⟨k, la, ln, lc, ot, by_, oa, on_, oc, ca, ka, kn, kc, L, O, K⟩ := q
  show Calls Tryz.prog 8 #[.pointer (some ⟨P, 0, none⟩), .agg #[.int .i64 k, .slice la ln lc, .int .i64 ot, .int .u8 by_, .slice oa on_ oc, .int .i64 ca, .slice ka kn kc]] w (StP w0 P (j + 200))
  by_cases h0 : k = 0
  · subst h0; exact wstep0 w0 w P D R j tv wv B h hT hj la ln lc ot by_ oa on_ oc ca ka kn kc L hq.l hq.ll hq.lb hq.lx
  by_cases h1 : k = 1
  · subst h1; exact wstep1 w0 w P D R j tv wv B h hT hj la ln lc ot by_ oa on_ oc ca ka kn kc
  by_cases h2 : k = 2
  · subst h2; exact wstep2 w0 w P D R j tv wv B h hT hj la ln lc ot by_ oa on_ oc ca ka kn kc
  by_cases h3 : k = 3
  · subst h3; exact wstep3 w0 w P D R j tv wv B h hT hj la ln lc ot by_ oa on_ oc ca ka kn kc hq.y O hq.o hq.ol
  by_cases h4 : k = 4
  · subst h4; exact wstep4 w0 w P D R j tv wv B h hT hj la ln lc ot by_ oa on_ oc ca ka kn kc
  by_cases h5 : k = 5
  · subst h5; exact wstep5 w0 w P D R j tv wv B h hT hj la ln lc ot by_ oa on_ oc ca ka kn kc hq.c K hq.b hq.bl hq.b0 hq.bb
  by_cases h6 : k = 6
  · subst h6; exact wstep6 w0 w P D R j tv wv B h hT hj la ln lc ot by_ oa on_ oc ca ka kn kc hq.c K hq.b hq.bl hq.b0 hq.bb
  by_cases h7 : k = 7
  · subst h7; exact wstep7 w0 w P D R j tv wv B h hT hj la ln lc ot by_ oa on_ oc ca ka kn kc
  exact wstepN w0 w P D R j tv wv B h hT hj la ln lc ot by_ oa on_ oc ca k h0 h1 h2 h3 h4 h5 h6 h7 ka kn kc
/-- the script -/
structure SrAt (w : World) (a : Option Addr) (L : List OpR) : Prop where
  at_ : L = [] ∨ ∃ b off, a = some ⟨b, off, none⟩ ∧ ∀ i q, L[i]? = some q → ∀ t, t < 7 → w.cell? ⟨b, off + i * 7 + t, none⟩ = q.cs[t]?
  each : ∀ q ∈ L, OpIn w q
theorem SrAt.cells {w wx : World} {b off : Nat} {L : List OpR} (h : SrAt w (some ⟨b, off, none⟩) L) (hb : Below w.heap.size w wx) {i : Nat} {q : OpR} (hq : L[i]? = some q) : wx.cell? ⟨b, off + i * 7, none⟩ = some (.int .i64 q.k) ∧ wx.cell? ⟨b, off + i * 7 + 1, none⟩ = some (.slice q.la q.ln q.lc) ∧ wx.cell? ⟨b, off + i * 7 + 2, none⟩ = some (.int .i64 q.ot) ∧ wx.cell? ⟨b, off + i * 7 + 3, none⟩ = some (.int .u8 q.by_) ∧ wx.cell? ⟨b, off + i * 7 + 4, none⟩ = some (.slice q.oa q.on_ q.oc) ∧ wx.cell? ⟨b, off + i * 7 + 5, none⟩ = some (.int .i64 q.ca) ∧ wx.cell? ⟨b, off + i * 7 + 6, none⟩ = some (.slice q.ka q.kn q.kc) := by
  rcases h.at_ with e | ⟨b', off', e, hc⟩
  · rw [e] at hq; simp at hq
  · cases e
    have t : ∀ t, t < 7 → ∀ v, q.cs[t]? = some v → wx.cell? ⟨b, off + i * 7 + t, none⟩ = some v := fun t ht v hv => (below_fr hb (fun _ => False)).cell ((hc i q hq t ht).trans hv) (fun e => e)
    exact ⟨t 0 (by omega) _ rfl, t 1 (by omega) _ rfl, t 2 (by omega) _ rfl, t 3 (by omega) _ rfl, t 4 (by omega) _ rfl, t 5 (by omega) _ rfl, t 6 (by omega) _ rfl⟩
theorem Pl.start {w w4 : World} {D : Dk} {R : RDk} (n : NewW w w4 D R 0) : Pl w (w4.alloc (.cells #[.pointer (some ⟨D.d, 0, none⟩), .pointer (some ⟨R.r, 0, none⟩), .slice none 0 0, .slice none 0 0] 36)) w4.heap.size D R 0 (.slice none 0 0) (.slice none 0 0) [] := by
  have hA : Below w4.heap.size w4 (w4.alloc (.cells #[.pointer (some ⟨D.d, 0, none⟩), .pointer (some ⟨R.r, 0, none⟩), .slice none 0 0, .slice none 0 0] 36)) := (Below.refl _ _).alloc (Nat.le_refl _) _
  refine ⟨⟨n.d.on hA, n.t.on hA, n.ap, n.nd, n.be.trans (hA.mono n.be.size), n.kd⟩, heap_alloc_new _ _, ⟨n.be.size, fun e => absurd (n.d.ltAll e) (Nat.lt_irrefl _), fun e => absurd (n.t.r.lt e) (Nat.lt_irrefl _)⟩, ⟨rfl, .inl ⟨rfl, rfl⟩⟩, ⟨rfl, .inl ⟨rfl, rfl⟩⟩, (fun k e => by cases e), (fun k e => by cases e), (fun q hq => by cases hq), Nat.zero_le _⟩
end Go.Proofs.YtamlbpbhlgmcoaaGreatDoor

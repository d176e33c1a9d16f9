import Derived.Test.YtamlbpbhlgmcoaaGreatDoorKWpD
import Derived.Deep.RegionHeld3
import Derived.Test.YtamlbpbhlgmcoaaGreatDoorKMay
import Derived.Laws.ResultCell
namespace Go.Proofs.YtamlbpbhlgmcoaaGreatDoor
open Go.RowKit Rec
/-- an act as the program's log has it -/
def waQ (q : ActR) : WA := if q.kind = 1 then some (q.b.toNat, q.x) else none
def AqOk (nb : Nat) (q : ActR) : Prop := (q.kind = 1 ∧ 0 ≤ q.b ∧ q.b < nb ∧ q.x.length = 512) ∨ q.kind = 2
theorem Acts.frE {S : Nat → Prop} {w w' : World} {a0 : Option Addr} {A : List ActR} (h : Acts w a0 A) (x : Fr S w w') (h1 : ∀ b off, a0 = some ⟨b, off, none⟩ → ¬ S b) (h2 : ∀ q ∈ A, q.x ≠ [] → ∀ p, q.a = some p → ¬ S p.block) : Acts w' a0 A := by
  refine ⟨?_, fun q hq => bytes_frE (h.each q hq) x (h2 q hq), h.len⟩
  rcases h.at_ with e | ⟨b, off, e, hc⟩
  · exact .inl e
  · refine .inr ⟨b, off, e, fun i q hq => ?_⟩
    obtain ⟨f0, f1, f2⟩ := hc i q hq
    exact ⟨x.cell f0 (h1 b off e), x.cell f1 (h1 b off e), x.cell f2 (h1 b off e)⟩
theorem wE_take {a : AD} {q : ActR} {nb : Nat} (hq : q.kind = 1 ∧ 0 ≤ q.b ∧ q.b < nb ∧ q.x.length = 512) (hnb : a.nb = nb) : wE a q.b 512 = a.takeE [waQ q] ∧ wA a q.b q.x = a.take [waQ q] := by
  have ht : waQ q = some (q.b.toNat, q.x) := by unfold waQ; rw [if_pos hq.1]
  rw [ht]
  unfold wE wA
  by_cases hd : a.down = true
  · rw [if_pos hd, if_pos hd]
    obtain ⟨e1, e2⟩ := take_down a (some (q.b.toNat, q.x)) [] hd
    rw [e1, e2]; exact ⟨rfl, rfl⟩
  · have hd' : a.down = false := by cases e : a.down with | true => exact absurd e hd | false => rfl
    obtain ⟨e1, e2⟩ := take_single a (some (q.b.toNat, q.x)) hd'
    have hin : 0 ≤ q.b ∧ q.b < a.nb := by rw [hnb]; exact ⟨hq.2.1, hq.2.2.1⟩
    rw [if_neg hd, if_neg hd, e1, e2, if_pos hin, if_pos hin, if_pos (rfl : (512 : Nat) = 512), if_pos hq.2.2.2]
    exact ⟨rfl, rfl⟩
theorem fE_take {a : AD} {q : ActR} (hq : ¬ q.kind = 1) : fE a = a.takeE [waQ q] ∧ fA a = a.take [waQ q] := by
  have ht : waQ q = none := by unfold waQ; rw [if_neg hq]
  rw [ht]
  unfold fE fA
  by_cases hd : a.down = true
  · rw [if_pos hd, if_pos hd]
    obtain ⟨e1, e2⟩ := take_down a none [] hd
    rw [e1, e2]; exact ⟨rfl, rfl⟩
  · have hd' : a.down = false := by cases e : a.down with | true => exact absurd e hd | false => rfl
    obtain ⟨e1, e2⟩ := take_single a none hd'
    rw [if_neg hd, if_neg hd, e1, e2]
    exact ⟨rfl, rfl⟩
theorem take_nb : ∀ (l : List WA) (a : AD), (a.take l).nb = a.nb
  | [], _ => rfl
  | t :: r, a => by
    rw [AD.take]
    split
    · rfl
    · split
      · exact act_nb a t
      · rw [take_nb r, act_nb]
/-- how far the document's disk has come -/
structure Tk (w : World) (a : AD) (R : RDk) (j : Nat) (A : List ActR) (a0 : Option Addr) (wr : World) (R' : RDk) (k : Nat) : Prop where
  m : RM w R wr (a.take ((A.map waQ).take k)) R' (j + k)
  z : a.takeE ((A.map waQ).take k) = 0
  acts : Acts wr a0 A
theorem tk_get {A : List ActR} {k : Nat} {q : ActR} (h : A[k]? = some q) : (A.map waQ)[k]? = some (waQ q) := by rw [List.getElem?_map, h]; rfl
theorem Tk.more {w : World} {a : AD} {R : RDk} {j : Nat} {A : List ActR} {a0 : Option Addr} {wr wx w' : World} {R' R2 : RDk} {k : Nat} {q : ActR} {a' : AD} (h : Tk w a R j A a0 wr R' k) (hq : A[k]? = some q) (hx : Below wr.heap.size wr wx) (hM : RM wx R' w' a' R2 (j + k + 1)) (ha : a' = (a.take ((A.map waQ).take k)).take [waQ q]) :
    RM w R w' (a.take ((A.map waQ).take (k + 1))) R2 (j + (k + 1)) := by
  obtain ⟨e1, e2⟩ := take_more a (A.map waQ) k (waQ q) (tk_get hq) h.z
  have h1 : RM w R wx (a.take ((A.map waQ).take k)) R' (j + k) := ⟨h.m.t.on hx, h.m.fr.trans (below_fr hx (fun _ => False)) (fun _ e => e.elim), h.m.al, h.m.r⟩
  have h2 := h1.trans hM
  rw [e1, ← ha]
  exact h2
set_option maxRecDepth 100000 in
set_option maxHeartbeats 4000000 in
theorem rtake_any (w : World) (a : AD) (R : RDk) (j : Nat) (h : RT w a R j) (a0 : Option Addr) (n c : Nat) (A : List ActR) (hA : Acts w a0 A) (hn : A.length = n) (hj : j + n ≤ 100000000) (hok : ∀ q ∈ A, AqOk R.nb q) (h1 : ∀ b off, a0 = some ⟨b, off, none⟩ → ¬ R.all b) (h2 : ∀ q ∈ A, q.x ≠ [] → ∀ p, q.a = some p → ¬ R.all p.block) (h0 : ∀ b off, a0 = some ⟨b, off, none⟩ → b < w.heap.size) :
    Calls Tryz.prog 63 #[.pointer (some ⟨R.r, 0, none⟩), .slice a0 n c] w fun e w' => e = .returned (.int .i64 (a.takeE (A.map waQ))) ∧ ∃ R', RM w R w' (a.take (A.map waQ)) R' (j + n) := by
  have HA : Hid (Acts w a0 A ∧ A.length = n ∧ (∀ q ∈ A, AqOk R.nb q) ∧ (∀ b off, a0 = some ⟨b, off, none⟩ → ¬ R.all b) ∧ (∀ q ∈ A, q.x ≠ [] → ∀ p, q.a = some p → ¬ R.all p.block) ∧ (∀ b off, a0 = some ⟨b, off, none⟩ → b < w.heap.size)) := ⟨hA, hn, hok, h1, h2, h0⟩
  have HT0 : Hid (Tk w a R j A a0 w R 0) := ⟨h.same (Nat.le_refl _) (Below.refl _ _), rfl, hA⟩
  have HR : Hid (a.nb = R.nb) := h.tie.nb
  clear h hA hn hok h1 h2 h0
  obtain ⟨r, hr⟩ : ∃ r, R.r = r := ⟨_, rfl⟩
  rw [hr]
  go_enter Tryz.func63, Tryz.ntmps63
  go_wp2
  go_loopw [5] (fun s5 wr => ∃ k : Nat, k ≤ n ∧ s5 = .int .i64 k ∧ ∃ R', Tk w a R j A a0 wr R' k) (fun s5 _ => n - (intOf s5).toNat)
  case atStart => exact ⟨0, Nat.zero_le _, rfl, R, HT0.out⟩
  case round =>
    clear HT0
    obtain ⟨k, hk, rfl, R', hT⟩ := hrel
    have HT : Hid (Tk w a R j A a0 wr R' k) := hT
    have hr' : R'.r = r := by rw [hT.m.r]; exact hr
    clear hT
    by_cases hlt : k < n
    · have hkl : k < A.length := by rw [HA.out.2.1]; exact hlt
      obtain ⟨q, hq⟩ : ∃ q, A[k]? = some q := ⟨_, List.getElem?_eq_getElem hkl⟩
      obtain ⟨b, off, rfl, hc⟩ := HT.out.acts.at_.resolve_left (by intro e; rw [e] at hkl; simp at hkl)
      obtain ⟨f0, f1, f2⟩ := hc k q hq
      have hqm := List.mem_of_getElem? hq
      have HQ : Hid (A[k]? = some q ∧ AqOk R.nb q ∧ Bytes wr q.a q.x) := ⟨hq, HA.out.2.2.1 q hqm, HT.out.acts.each q hqm⟩
      have HBn : Hid (¬ R'.all b) := fun e => by
        rcases HT.out.m.al b e with e | e
        · exact HA.out.2.2.2.1 b off rfl e
        · have := HA.out.2.2.2.2.2 b off rfl; omega
      have HNb : Hid ((a.take ((A.map waQ).take k)).nb = R.nb) := by
        have e1 := HT.out.m.t.tie.nb
        have e2 : R'.nb = R.nb := by
          rw [← e1, take_nb]; exact HR.out
        exact e1.trans e2
      have HNx : Hid (∀ wx w' R2 a' , Below wr.heap.size wr wx → RM wx R' w' a' R2 (j + k + 1) → a' = (a.take ((A.map waQ).take k)).take [waQ q] → (a.take ((A.map waQ).take k)).takeE [waQ q] = 0 → Tk w a R j A (some ⟨b, off, none⟩) w' R2 (k + 1)) := fun wx w' R2 a' hx hM ha hz => by
        have hm := HT.out.more HQ.out.1 hx hM ha
        refine ⟨hm, by rw [(take_more a (A.map waQ) k (waQ q) (tk_get HQ.out.1) HT.out.z).2]; exact hz, ?_⟩
        exact HA.out.1.frE hm.fr HA.out.2.2.2.1 HA.out.2.2.2.2.1
      have HSt : Hid (∀ wx w' R2 a' , Below wr.heap.size wr wx → RM wx R' w' a' R2 (j + k + 1) → a' = (a.take ((A.map waQ).take k)).take [waQ q] → (a.take ((A.map waQ).take k)).takeE [waQ q] ≠ 0 → (a.take ((A.map waQ).take k)).takeE [waQ q] = a.takeE (A.map waQ) ∧ RM w R w' (a.take (A.map waQ)) R2 (j + n)) := fun wx w' R2 a' hx hM ha hz => by
        have hm := HT.out.more HQ.out.1 hx hM ha
        have e2 := (take_more a (A.map waQ) k (waQ q) (tk_get HQ.out.1) HT.out.z).2
        obtain ⟨e3, e4⟩ := take_stop a (A.map waQ) (k + 1) (by rw [e2]; exact hz)
        refine ⟨by rw [← e2, e4], ?_⟩
        rw [e3]
        exact ⟨hm.t.up (by omega), hm.fr, hm.al, hm.r⟩
      clear hc hq hqm hkl
      by_cases hkd : q.kind = 1
      · rw [hkd] at f0
        have hv := HQ.out.2.1.resolve_right (by rw [hkd]; decide)
        obtain ⟨e1, e2⟩ := wE_take hv HNb.out
        have HW : Hid (Calls Tryz.prog 30 #[.pointer (some ⟨r, 0, none⟩), .int .i64 q.b, .slice q.a q.x.length q.c] wr.drew fun e w' => e = .returned (.int .i64 ((a.take ((A.map waQ).take k)).takeE [waQ q])) ∧ ∃ R2, RM wr.drew R' w' ((a.take ((A.map waQ).take k)).take [waQ q]) R2 (j + k + 1)) := by
          have hd : Below wr.heap.size wr wr.drew := (Below.refl _ _).drew
          have := (HT.out.m.t.on hd).write (by omega) q.b q.a q.x.length q.c q.x (HQ.out.2.2.on hd) rfl (by rw [hv.2.2.2]; omega)
          rw [hv.2.2.2] at this ⊢
          rw [e1, e2, hr'] at this
          exact this
        clear e1 e2 hv
        obtain ⟨E, hE⟩ : ∃ E, (a.take ((A.map waQ).take k)).takeE [waQ q] = E := ⟨_, rfl⟩
        rw [hE] at HW
        have HE : Hid ((a.take ((A.map waQ).take k)).takeE [waQ q] = E) := hE
        clear hE
        have hS0 : wr.drew.cell? ⟨b, off + k * 3 + 1, none⟩ = some (.int .i64 q.b) ∧ wr.drew.cell? ⟨b, off + k * 3 + 2, none⟩ = some (.slice q.a q.x.length q.c) := ⟨f1, f2⟩
        go_upto_region 6 with fail
        clear f0 f1 f2
        go_region_held3 (fun w' => w'.cell? ⟨b, off + k * 3 + 1, none⟩ = some (.int .i64 q.b) ∧ w'.cell? ⟨b, off + k * 3 + 2, none⟩ = some (.slice q.a q.x.length q.c)) (first | exact hS0 | exact hS1) (first | (go_at_call 30; refine HW.out.mono ?_; rintro e w7 ⟨rfl, R2, hM⟩; have H7 : Hid (RM wr.drew R' w7 ((a.take ((A.map waQ).take k)).take [waQ q]) R2 (j + k + 1)) := hM; have hS1 : w7.cell? ⟨b, off + k * 3 + 1, none⟩ = some (.int .i64 q.b) ∧ w7.cell? ⟨b, off + k * 3 + 2, none⟩ = some (.slice q.a q.x.length q.c) := ⟨hM.fr.cell hS0.1 HBn.out, hM.fr.cell hS0.2 HBn.out⟩; clear hM))
        clear hS0 hS1
        by_cases hz : E = 0
        · have HN := HNx.out _ _ _ _ (Below.refl _ _).drew H7.out rfl (by rw [HE.out]; exact hz)
          subst hz
          have HN2 : Hid (Tk w a R j A (some ⟨b, off, none⟩) w7 R2 (k + 1)) := HN
          clear HN
          go_wp2
          exact ⟨⟨k + 1, hlt, rfl, R2, HN2.out⟩, by simp [intOf]; omega⟩
        · have HN := HSt.out _ _ _ _ (Below.refl _ _).drew H7.out rfl (by rw [HE.out]; exact hz)
          have HN2 : Hid (E = a.takeE (A.map waQ) ∧ RM w R w7 (a.take (A.map waQ)) R2 (j + n)) := by rw [← HE.out]; exact HN
          clear HN
          go_wp2
          go_ret
          exact ⟨(by rw [← HN2.out.1]; rfl), R2, HN2.out.2⟩
      · obtain ⟨kd, hkd2⟩ : ∃ kd, q.kind = kd := ⟨_, rfl⟩
        rw [hkd2] at f0 hkd
        have hkb : (kd == 1) = false := beq_eq_false_iff_ne.2 hkd
        obtain ⟨e1, e2⟩ := fE_take (a := a.take ((A.map waQ).take k)) (q := q) (by rw [hkd2]; exact hkd)
        have HW : Hid (Calls Tryz.prog 32 #[.pointer (some ⟨r, 0, none⟩)] wr fun e w' => e = .returned (.int .i64 ((a.take ((A.map waQ).take k)).takeE [waQ q])) ∧ ∃ R2, RM wr R' w' ((a.take ((A.map waQ).take k)).take [waQ q]) R2 (j + k + 1)) := by
          have := HT.out.m.t.flush (by omega)
          rw [e1, e2, hr'] at this
          exact this
        clear e1 e2 hkd2
        obtain ⟨E, hE⟩ : ∃ E, (a.take ((A.map waQ).take k)).takeE [waQ q] = E := ⟨_, rfl⟩
        rw [hE] at HW
        have HE : Hid ((a.take ((A.map waQ).take k)).takeE [waQ q] = E) := hE
        clear hE f1 f2
        go_upto_region 8 with (go_at_call 32; refine HW.out.mono ?_; rintro e w7 ⟨rfl, R2, hM⟩; have H7 : Hid (RM wr R' w7 ((a.take ((A.map waQ).take k)).take [waQ q]) R2 (j + k + 1)) := hM; clear hM)
        clear f0
        by_cases hz : E = 0
        · have HN := HNx.out _ _ _ _ (Below.refl _ _) H7.out rfl (by rw [HE.out]; exact hz)
          subst hz
          have HN2 : Hid (Tk w a R j A (some ⟨b, off, none⟩) w7 R2 (k + 1)) := HN
          clear HN
          go_wp2
          exact ⟨⟨k + 1, hlt, rfl, R2, HN2.out⟩, by simp [intOf]; omega⟩
        · have HN := HSt.out _ _ _ _ (Below.refl _ _) H7.out rfl (by rw [HE.out]; exact hz)
          have HN2 : Hid (E = a.takeE (A.map waQ) ∧ RM w R w7 (a.take (A.map waQ)) R2 (j + n)) := by rw [← HE.out]; exact HN
          clear HN
          go_wp2
          go_ret
          exact ⟨(by rw [← HN2.out.1]; rfl), R2, HN2.out.2⟩
    · have hkn : k = n := by omega
      subst hkn
      have HE : Hid (a.takeE (A.map waQ) = 0 ∧ RM w R wr (a.take (A.map waQ)) R' (j + k)) := by
        have e : (A.map waQ).take k = A.map waQ := List.take_of_length_le (by rw [List.length_map, HA.out.2.1]; exact Nat.le_refl _)
        have hz := HT.out.z
        have hm := HT.out.m
        rw [e] at hz hm
        exact ⟨hz, hm⟩
      go_wp2
      go_ret
      exact ⟨(by rw [HE.out.1]; rfl), R', HE.out.2⟩
end Go.Proofs.YtamlbpbhlgmcoaaGreatDoor

namespace Go.Proofs.YtamlbpbhlgmcoaaGreatDoor
open Go.RowKit Rec

theorem res_row9 {fn : Func} {p : Tmp} {ty : TypeId} (h : fn.results = #[.cell p ty]) (tmps : Array Value) (w : World) (g : Nat) (cs : Array Value)
    (hp : tmps.getD p undef = .pointer (some ⟨g, 0, none⟩)) (hl : (loadVar ty ⟨g, 0, none⟩).run Tryz.prog w = .ok (.agg cs) w) :
    (results fn tmps).run Tryz.prog w = .ok (.agg cs) w := by
  have e : (results fn tmps).run Tryz.prog w = ((asAddr (tmps.getD p undef)).run Tryz.prog w).andThen fun a w₁ => (loadVar ty a).run Tryz.prog w₁ := by
    simp only [results, h]
    simp [Sem.run_bind, Result.andThen]
  rw [e, hp]
  simp [asAddr, hl]
end Go.Proofs.YtamlbpbhlgmcoaaGreatDoor

namespace Go.Proofs.YtamlbpbhlgmcoaaGreatDoor
open Go.RowKit Rec
set_option maxRecDepth 100000 in
set_option maxHeartbeats 1600000 in
theorem r5write_any (w : World) (i : Int) (a : Option Addr) (n c : Nat) : Calls Tryz.prog 91 #[.int .i64 i, .slice a n c] w fun e w' => e = .returned (.agg #[.int .i64 1, .int .i64 i, .slice a n c]) ∧ Below w.heap.size w w' := by
  go_enter Tryz.func91, Tryz.ntmps91
  go_wp2
  refine bodyPost_ret (v := .agg #[.int .i64 1, .int .i64 i, .slice a n c]) (res_row9 rfl _ _ w.heap.size #[.int .i64 1, .int .i64 i, .slice a n c] rfl (by simp [go_sem])) rfl ?_
  exact ⟨rfl, (Below.refl _ _).alloc (Nat.le_refl _) _⟩
set_option maxRecDepth 100000 in
set_option maxHeartbeats 1600000 in
theorem r5flush_any (w : World) : Calls Tryz.prog 92 #[] w fun e w' => e = .returned (.agg #[.int .i64 2, .int .i64 0, .slice none 0 0]) ∧ Below w.heap.size w w' := by
  go_enter Tryz.func92, Tryz.ntmps92
  go_wp2
  refine bodyPost_ret (v := .agg #[.int .i64 2, .int .i64 0, .slice none 0 0]) (res_row9 rfl _ _ w.heap.size #[.int .i64 2, .int .i64 0, .slice none 0 0] rfl (by simp [go_sem])) rfl ?_
  exact ⟨rfl, (Below.refl _ _).alloc (Nat.le_refl _) _⟩
/-- an act's bytes: there from the first, or in a row of their own -/
def AcD (w0 wr : World) (q : ActR) : Prop := Bytes w0 q.a q.x ∨ ∃ g, q.a = some ⟨g, 0, none⟩ ∧ w0.heap.size ≤ g ∧ OwnB wr g q.c q.x
theorem AcD.bytes {w0 wr : World} {q : ActR} (h : AcD w0 wr q) (hb : Below w0.heap.size w0 wr) : Bytes wr q.a q.x := by
  rcases h with h | ⟨g, e, _, ho⟩
  · exact h.on hb
  · rw [e]; exact ho.bytes
theorem AcD.on {w0 wr w' : World} {q : ActR} (h : AcD w0 wr q) (hb : Below wr.heap.size wr w') : AcD w0 w' q := h.imp id (fun ⟨g, e, hg, ho⟩ => ⟨g, e, hg, ho.on hb⟩)
theorem AcD.fr {w0 wr w' : World} {q : ActR} {v : Value} {n : Nat} {xs : List Value} (h : AcD w0 wr q) (hr : wr.ownsRow 0 79 3 v n xs) (x : Fr (fun k => v.ownBlock = some k) wr w') : AcD w0 w' q :=
  h.imp id (fun ⟨g, e, hg, ho⟩ => ⟨g, e, hg, ho.fr x (own_apart7 hr ho (by decide))⟩)
/-- acts in a row of one's own -/
structure AcL (w0 w wr : World) (v : Value) (A : List ActR) : Prop where
  row : wr.ownsRow 0 79 3 v A.length (A.flatMap ActR.cells)
  each : ∀ q ∈ A, AcD w0 wr q
  far : ∀ k, v.ownBlock = some k → w.heap.size ≤ k
  bel : Below w.heap.size w wr
theorem AcL.zero {w0 w wr : World} (hb : Below w.heap.size w wr) : AcL w0 w wr (.slice none 0 0) [] := ⟨⟨rfl, .inl ⟨rfl, rfl⟩⟩, (fun q h => by cases h), (fun k h => by cases h), hb⟩
theorem AcL.on {w0 w wr w' : World} {v : Value} {A : List ActR} (h : AcL w0 w wr v A) (hb : Below wr.heap.size wr w') : AcL w0 w w' v A := ⟨owns_on h.row hb, fun q hq => (h.each q hq).on hb, h.far, h.bel.trans (hb.mono h.bel.size)⟩
theorem AcL.add {w0 w wr wa w' : World} {v : Value} {A M : List ActR} {g cap k m : Nat} (h : AcL w0 w wr v A) (hk : A.length = k) (hm : M.length = m) (ha : Below wr.heap.size wr wa) (hM : ∀ q ∈ M, AcD w0 wa q) (h1 : w'.ownsRow 0 79 3 (.slice (some ⟨g, 0, none⟩) (k + m) cap) (k + m) (A.flatMap ActR.cells ++ M.flatMap ActR.cells)) (h2 : Fr (fun k => v.ownBlock = some k) wa w') (h3 : v.ownBlock = some g ∨ wa.heap.size ≤ g) : AcL w0 w w' (.slice (some ⟨g, 0, none⟩) (k + m) cap) (A ++ M) := by
  subst hk hm
  have h' := h.on ha
  refine ⟨by rw [List.length_append, List.flatMap_append]; exact h1, fun q hq => ?_, fun b e => ?_, h'.bel.trans (h2.below _ h.far h'.bel.size)⟩
  · rcases List.mem_append.1 hq with hq | hq
    · exact (h'.each q hq).fr h'.row h2
    · exact (hM q hq).fr h'.row h2
  · cases e
    rcases h3 with h3 | h3
    · exact h.far _ h3
    · exact Nat.le_trans h'.bel.size h3
def wQ (i : Int) (q : BG) : ActR := ⟨1, i, q.a, q.c, q.x⟩
def fQ : ActR := ⟨2, 0, none, 0, []⟩
def homL (L : List BG) : List ActR := L.map (fun q => wQ q.n q)
def tailQ (g cap : Nat) (x : List Int) : List ActR := [fQ, ⟨1, 1, some ⟨g, 0, none⟩, cap, x⟩, fQ]
theorem fQ_d (w0 wr : World) : AcD w0 wr fQ := .inl ⟨by simp [fQ], (fun i => by simp [fQ, nth]), .inl rfl⟩
/-- numbers and bytes in memory, the bytes there from the first -/
structure NdA (w0 w : World) (sa da : Option Addr) (L : List BG) : Prop where
  ints : Ints w sa (nsG L)
  dat : L = [] ∨ ∃ b off, da = some ⟨b, off, none⟩ ∧ ∀ i q, L[i]? = some q → w.cell? ⟨b, off + i, none⟩ = some q.v
  each : ∀ q ∈ L, Bytes w0 q.a q.x
  bel : Below w0.heap.size w0 w
theorem NdA.on {w0 w w' : World} {sa da : Option Addr} {L : List BG} (h : NdA w0 w sa da L) (hb : Below w.heap.size w w') : NdA w0 w' sa da L := by
  refine ⟨h.ints.on hb, ?_, h.each, h.bel.trans (hb.mono h.bel.size)⟩
  rcases h.dat with e | ⟨b, off, e, hc⟩
  · exact .inl e
  · exact .inr ⟨b, off, e, fun i q hq => (below_fr hb (fun _ => False)).cell (hc i q hq) (fun e => e)⟩
theorem NdA.cell {w0 w : World} {sa da : Option Addr} {L : List BG} (h : NdA w0 w sa da L) {j : Nat} {q : BG} (hq : L[j]? = some q) : (∃ b off, sa = some ⟨b, off, none⟩ ∧ w.cell? ⟨b, off + j, none⟩ = some (.int .i64 q.n)) ∧ ∃ b off, da = some ⟨b, off, none⟩ ∧ w.cell? ⟨b, off + j, none⟩ = some (.slice q.a q.x.length q.c) := by
  have hjl := (List.getElem?_eq_some_iff.1 hq).1
  constructor
  · obtain ⟨b, off, e, hc⟩ := h.ints.at_.resolve_left (by intro e; have := nsG_len L; rw [e] at this; simp at this; omega)
    refine ⟨b, off, e, ?_⟩
    rw [hc j (by rw [nsG_len]; exact hjl), nth_nsG hq]
  · obtain ⟨b, off, e, hc⟩ := h.dat.resolve_left (by intro e; rw [e] at hjl; simp at hjl)
    exact ⟨b, off, e, hc j q hq⟩
theorem homL_take {L : List BG} {j : Nat} {q : BG} (h : L[j]? = some q) : homL (L.take (j + 1)) = homL (L.take j) ++ [wQ q.n q] := by unfold homL; rw [take_bg h, List.map_append]; rfl
theorem homL_len (L : List BG) : (homL L).length = L.length := by simp [homL]
set_option maxRecDepth 100000 in
set_option maxHeartbeats 4000000 in
theorem r5home_any (w0 w : World) (sa da : Option Addr) (n nc dc : Nat) (L : List BG) (h : NdA w0 w sa da L) (hn : L.length = n) (h96 : n ≤ 1000) :
    Calls Tryz.prog 65 #[.slice sa n nc, .slice da n dc] w fun e w' => ∃ a c g cap, e = .returned (.slice a (n + 3) c) ∧ AcL w0 w w' (.slice a (n + 3) c) (homL L ++ tailQ g cap zs) ∧ w.heap.size ≤ g := by
  have HN : Hid (NdA w0 w sa da L ∧ L.length = n) := ⟨h, hn⟩
  clear h hn
  obtain ⟨i1, j1, j2, j3, j4⟩ := info_parts infoAct
  go_enter Tryz.func65, Tryz.ntmps65
  go_wp2
  go_loopw [5, 6] (fun s5 s6 wr => ∃ j : Nat, j ≤ n ∧ s6 = .int .i64 j ∧ AcL w0 w wr s5 (homL (L.take j))) (fun _ s6 _ => n - (intOf s6).toNat)
  case atStart => exact ⟨0, Nat.zero_le _, rfl, AcL.zero (Below.refl _ _)⟩
  case round =>
    obtain ⟨j, hj, rfl, hA⟩ := hrel
    have HA : Hid (AcL w0 w wr u5 (homL (L.take j))) := hA
    clear hA
    by_cases hlt : j < n
    · have hjl : j < L.length := by rw [HN.out.2]; exact hlt
      obtain ⟨q, hq⟩ : ∃ q, L[j]? = some q := ⟨_, List.getElem?_eq_getElem hjl⟩
      have HLj : Hid ((homL (L.take j)).length = j) := (show (homL (L.take j)).length = j by rw [homL_len, List.length_take]; omega)
      obtain ⟨⟨b, off, rfl, c1⟩, b', off', rfl, c2⟩ := (HN.out.1.on HA.out.bel).cell hq
      have HQ : Hid (L[j]? = some q) := hq
      clear hq hjl
      obtain ⟨qn, hqn⟩ : ∃ qn, q.n = qn := ⟨_, rfl⟩
      rw [hqn] at c1
      have HNn : Hid (q.n = qn) := hqn
      clear hqn
      have d1 : wr.drew.cell? ⟨b, off + j, none⟩ = some (.int .i64 qn) := c1
      have d2 : wr.drew.cell? ⟨b', off' + j, none⟩ = some (.slice q.a q.x.length q.c) := c2
      have HRow : Hid (wr.ownsRow 0 79 3 u5 j ((homL (L.take j)).flatMap ActR.cells)) := by
        have := HA.out.row; rw [HLj.out] at this; exact this
      go_upto_region 5 with fail
      go_region_law (first
        | (refine step_own (by rfl) (.tmp 14) (.tmp 24) 38 (by rfl) 79 i1 _ 3 40 Tryz.underlying38 j1 j2 j3 j4 (by rfl) (by decide) u5 j ((homL (L.take j)).flatMap ActR.cells) (by rfl) (owns_fr HRow.out (below_fr (HB1.out.trans (((Below.refl w1.heap.size w1).alloc (Nat.le_refl _) _).mono HB1.out.size)) (fun _ => False)) (fun _ _ e => e)) ⟨w1.heap.size, 0, none⟩ 1 1 [.int .i64 1, .int .i64 qn, .slice q.a q.x.length q.c] (by rfl) (by decide) rfl (news_of (heap_alloc_new w1 _) _ rfl) (by intro u hu; simp at hu; rcases hu with rfl | rfl | rfl <;> rfl) (by unfold maxLen; omega) (by omega) ?_
           intro g cap w2 h1 h2 h3
           have HE : Hid (AcL w0 w w2 (.slice (some ⟨g, 0, none⟩) (j + 1) cap) (homL (L.take (j + 1)))) := (by
             rw [homL_take HQ.out]
             exact HA.out.add (M := [wQ q.n q]) HLj.out rfl (HB1.out.trans (((Below.refl w1.heap.size w1).alloc (Nat.le_refl _) _).mono HB1.out.size)) (fun q' hq' => by rw [List.mem_singleton] at hq'; subst hq'; exact .inl (HN.out.1.each q (List.mem_of_getElem? HQ.out))) (by rw [HNn.out]; exact h1) h2 h3)
           clear h1 h2 h3)
        | (go_simp; go_at_call 91; refine (r5write_any _ qn q.a q.x.length q.c).mono ?_; rintro e w1 ⟨rfl, hb⟩; have HB1 : Hid (Below wr.heap.size wr w1) := (Below.refl wr.heap.size wr).drew.trans hb; clear hb c1 c2 d1 d2))
      all_goals
        go_wp2
        exact ⟨⟨j + 1, hlt, rfl, HE.out⟩, by simp [intOf]; omega⟩
    · have hjn : j = n := by omega
      subst hjn
      have HA2 : Hid (AcL w0 w wr u5 (homL L) ∧ (homL L).length = j) := by
        have := HA.out
        rw [List.take_of_length_le (by rw [HN.out.2]; exact Nat.le_refl _)] at this
        exact ⟨this, by rw [homL_len]; exact HN.out.2⟩
      have HRow : Hid (wr.ownsRow 0 79 3 u5 j ((homL L).flatMap ActR.cells)) := by
        have := HA2.out.1.row; rw [HA2.out.2] at this; exact this
      go_upto_region 7 with (go_at_call 96; refine (rempty_any _).mono ?_; rintro e w1 ⟨g, cap, rfl, h1, h2, h3⟩; have H1 : Hid (OwnB w1 g cap zs ∧ wr.heap.size ≤ g ∧ Below wr.heap.size wr w1) := ⟨h1, h2, h3⟩; clear h1 h2 h3)
      have TK0 : Hid True := trivial
      go_wp2_with (first
        | (go_at_call 92; have hh := TK0.out; clear hh; refine (r5flush_any w1).mono ?_; rintro e w2 ⟨rfl, hb⟩; have H2 : Hid (Below w1.heap.size w1 w2) := hb; clear hb TK0; have TK1 : Hid True := trivial)
        | (go_at_call 91; refine (r5write_any w2 1 (some ⟨g, 0, none⟩) 512 cap).mono ?_; rintro e w3 ⟨rfl, hb⟩; have H3 : Hid (Below w2.heap.size w2 w3) := hb; clear hb)
        | (go_at_call 92; have hh := TK1.out; clear hh; refine (r5flush_any w3).mono ?_; rintro e w4 ⟨rfl, hb⟩; have HB4 : Hid (Below w1.heap.size w1 w4) := H2.out.trans ((H3.out.trans (hb.mono H3.out.size)).mono H2.out.size); clear hb TK1)
        | (at_builtin; refine wp_own rfl (.tmp 27) (.tmp 32) 38 rfl 79 i1 _ 3 40 Tryz.underlying38 j1 j2 j3 j4 rfl (by decide) u5 j ((homL L).flatMap ActR.cells) rfl (owns_fr HRow.out (below_fr (H1.out.2.2.trans ((HB4.out.trans (((Below.refl w4.heap.size w4).alloc (Nat.le_refl _) _).mono HB4.out.size)).mono H1.out.2.2.size)) (fun _ => False)) (fun _ _ e => e)) ⟨w4.heap.size, 0, none⟩ 3 3 [.int .i64 2, .int .i64 0, .slice none 0 0, .int .i64 1, .int .i64 1, .slice (some ⟨g, 0, none⟩) 512 cap, .int .i64 2, .int .i64 0, .slice none 0 0] rfl (by decide) rfl (news_of (heap_alloc_new w4 _) _ rfl) (by intro u hu; simp at hu; rcases hu with rfl | rfl | rfl | rfl | rfl | rfl | rfl | rfl | rfl <;> rfl) (by unfold maxLen; omega) (by omega) ?_
           intro g5 cap5 w5 h1 h2 h3
           go_frame
           have HE : Hid (AcL w0 w w5 (.slice (some ⟨g5, 0, none⟩) (j + 3) cap5) (homL L ++ tailQ g cap zs)) := (by
             have hba : Below w1.heap.size w1 (w4.alloc (.cells #[.int .i64 2, .int .i64 0, .slice none 0 0, .int .i64 1, .int .i64 1, .slice (some ⟨g, 0, none⟩) 512 cap, .int .i64 2, .int .i64 0, .slice none 0 0] 79)) := HB4.out.trans (((Below.refl w4.heap.size w4).alloc (Nat.le_refl _) _).mono HB4.out.size)
             refine HA2.out.1.add (M := tailQ g cap zs) HA2.out.2 rfl (H1.out.2.2.trans (hba.mono H1.out.2.2.size)) (fun q' hq' => ?_) h1 h2 h3
             have hs := HA2.out.1.bel.size
             have hs0 := HN.out.1.bel.size
             simp only [tailQ, List.mem_cons, List.not_mem_nil, or_false] at hq'
             rcases hq' with rfl | rfl | rfl
             · exact fQ_d _ _
             · exact .inr ⟨g, rfl, by have := H1.out.2.1; omega, H1.out.1.on hba⟩
             · exact fQ_d _ _)
           clear h1 h2 h3))
      go_ret
      exact ⟨_, _, g, cap, rfl, HE.out, by have := H1.out.2.1; have := HA2.out.1.bel.size; omega⟩
end Go.Proofs.YtamlbpbhlgmcoaaGreatDoor

import Derived.Test.YtflienghgobmoaaGreatDoorKRfD
import Derived.Test.YtflienghgobmoaaGreatDoorKTxN0
namespace Go.Proofs.YtflienghgobmoaaGreatDoor
open Go.RowKit Rec
/-- a put of the document's transaction -/
structure Dn where
  b : Int
  x : List Int
def Dn.cs (q : Dn) : List Value := [.int .i64 q.b, .string (strOfNums q.x)]
/-- the document's transaction, as it stands -/
structure RTx where
  u : Nat
  r : Nat
  rv : Value
  row : List Dn
  ends : Bool
def RTx.cells (U : RTx) : Array Value := #[.pointer (some ⟨U.r, 0, none⟩), U.rv, .bool U.ends]
structure RTxAt (w : World) (U : RTx) : Prop where
  box : w.heap[U.u]? = some (.cells U.cells 119 (0, 0))
  row : w.ownsRow 0 132 2 U.rv U.row.length (U.row.flatMap Dn.cs)
  len : U.row.length ≤ 4000000
  each : ∀ q ∈ U.row, 98 ≤ q.b ∧ q.b < 16384 ∧ q.x.length = 512 ∧ ∀ i, 0 ≤ nth q.x i ∧ nth q.x i < 256
theorem RTxAt.on {w w' : World} {U : RTx} (h : RTxAt w U) (hb : Below w.heap.size w w') : RTxAt w' U :=
  ⟨(hb.block _ (heap_lt h.box)).trans h.box, owns_fr h.row (below_fr hb (fun _ => False)) (fun _ _ e => e), h.len, h.each⟩
theorem RTxAt.cell {w : World} {U : RTx} (h : RTxAt w U) (i : Nat) : w.cell? ⟨U.u, i, none⟩ = U.cells[i]? := cell_of_row _ _ _ _ _ _ h.box
theorem RTxAt.frozen {w : World} {U : RTx} (h : RTxAt w U) (i : Nat) : w.frozen? ⟨U.u, i, none⟩ = false := frozen_of_row _ _ i _ _ h.box
theorem dn_flat : ∀ (l : List Dn) (k : Nat) (q : Dn), l[k]? = some q → (l.flatMap Dn.cs)[k * 2]? = some (.int .i64 q.b) ∧ (l.flatMap Dn.cs)[k * 2 + 1]? = some (.string (strOfNums q.x))
  | [], k, q, h => by simp at h
  | p :: r, 0, q, h => by simp at h; subst h; exact ⟨rfl, rfl⟩
  | p :: r, k + 1, q, h => by
    have := dn_flat r k q (by simpa using h)
    rw [show (k + 1) * 2 = k * 2 + 2 by omega]
    exact this
/-- the row's cells -/
def DnsAt (w : World) (a : Option Addr) (L : List Dn) : Prop := L = [] ∨ ∃ b off, a = some ⟨b, off, none⟩ ∧ ∀ k q, L[k]? = some q → w.cell? ⟨b, off + k * 2, none⟩ = some (.int .i64 q.b) ∧ w.cell? ⟨b, off + k * 2 + 1, none⟩ = some (.string (strOfNums q.x))
theorem RTxAt.at_ {w : World} {U : RTx} (h : RTxAt w U) : ∃ a c, U.rv = .slice a U.row.length c ∧ DnsAt w a U.row := by
  obtain ⟨a, c, e, _⟩ := owns_slice h.row
  refine ⟨a, c, e, ?_⟩
  by_cases h0 : U.row = []
  · exact .inl h0
  · rcases h.row.2 with ⟨_, e2⟩ | ⟨g, cap, cur, e2, _⟩
    · exact absurd (List.eq_nil_of_length_eq_zero e2) h0
    · rw [e] at e2
      cases e2
      refine .inr ⟨g, 0, rfl, fun i q hq => ?_⟩
      have hc := fun j u hj => World.ownsRow.cells h.row (g := g) (by rw [e]; rfl) j u hj
      obtain ⟨e0, e1⟩ := dn_flat U.row i q hq
      have t := fun j u hj => by have := hc j u hj; rw [Addr.add_lit, Nat.zero_add] at this; exact this
      rw [Nat.zero_add]
      exact ⟨t _ _ e0, t _ _ e1⟩
/-- the place of the last put of a block among the first n -/
def lpN (L : List Dn) (i : Int) : Nat → Int
  | 0 => -1
  | n + 1 => if (L[n]?.map Dn.b) = some i then (n : Int) else lpN L i n
theorem lpN_lo (L : List Dn) (i : Int) : ∀ n, -1 ≤ lpN L i n ∧ lpN L i n < (n : Int)
  | 0 => by simp [lpN]
  | n + 1 => by
    have := lpN_lo L i n
    unfold lpN
    split <;> omega
/-- what a block's last put has -/
def lpB (L : List Dn) (i : Int) : Nat → Option (List Int)
  | 0 => none
  | n + 1 => match L[n]? with
    | some q => if q.b = i then some q.x else lpB L i n
    | none => lpB L i n
theorem lp_some (L : List Dn) (i : Int) : ∀ n, n ≤ L.length → (lpN L i n = -1 ∧ lpB L i n = none) ∨ ∃ (k : Nat) (q : Dn), k < n ∧ lpN L i n = (k : Int) ∧ L[k]? = some q ∧ q.b = i ∧ lpB L i n = some q.x
  | 0, _ => .inl ⟨rfl, rfl⟩
  | n + 1, hn => by
    obtain ⟨q, hq⟩ : ∃ q, L[n]? = some q := ⟨_, List.getElem?_eq_getElem (by omega)⟩
    have ih := lp_some L i n (by omega)
    by_cases hb : q.b = i
    · refine .inr ⟨n, q, by omega, ?_, hq, hb, ?_⟩
      · unfold lpN; rw [hq]; simp [hb]
      · unfold lpB; rw [hq]; simp [hb]
    · have e1 : lpN L i (n + 1) = lpN L i n := by rw [lpN, hq]; simp [hb]
      have e2 : lpB L i (n + 1) = lpB L i n := by rw [lpB, hq]; simp [hb]
      rw [e1, e2]
      rcases ih with h | ⟨k, q', hk, h⟩
      · exact .inl h
      · exact .inr ⟨k, q', by omega, h⟩
set_option maxRecDepth 100000 in
set_option maxHeartbeats 4000000 in
theorem r6put_any (w : World) (U : RTx) (h : RTxAt w U) (i : Int) : Calls Tryz.prog 80 #[.pointer (some ⟨U.u, 0, none⟩), .int .i64 i] w fun e w' => e = .returned (.int .i64 (lpN U.row i U.row.length)) ∧ Below w.heap.size w w' := by
  obtain ⟨aa, ac, ha, hA⟩ := h.at_
  have hl := h.len
  obtain ⟨n, hn⟩ : ∃ n, U.row.length = n := ⟨_, rfl⟩
  have HD : Hid (RTxAt w U ∧ DnsAt w aa U.row ∧ U.row.length = n) := ⟨h, hA, hn⟩
  have HC : Hid (∀ wx, Below w.heap.size w wx → wx.cell? ⟨U.u, 1, none⟩ = some (.slice aa n ac)) := fun wx hb => by
    have := (h.on hb).cell 1
    rw [this]
    show some U.rv = _
    rw [ha, hn]
  rw [hn] at hl ⊢
  obtain ⟨u, hu⟩ : ∃ u, U.u = u := ⟨_, rfl⟩
  rw [hu] at HC ⊢
  clear h ha hA hn hu
  have c1 := HC.out w (Below.refl _ _)
  go_enter Tryz.func80, Tryz.ntmps80
  go_upto_region 3 with fail
  go_wp2
  go_loopw [5, 6] (fun s5 s6 wr => ∃ k : Nat, s6 = .int .i64 (k : Int) ∧ k ≤ n ∧ s5 = .int .i64 (lpN U.row i k) ∧ Below w.heap.size w wr) (fun _ s6 _ => n - (intOf s6).toNat)
  case atStart => exact ⟨0, rfl, Nat.zero_le _, rfl, Below.refl _ _⟩
  case round =>
    obtain ⟨k, rfl, hk, rfl, hB⟩ := hrel
    have HB : Hid (Below w.heap.size w wr) := hB
    clear c1 hB
    have c1 := HC.out wr HB.out
    have lp := lpN_lo U.row i k
    by_cases hlt : k < n
    · have hlt' : (k : Int) < (n : Int) := by omega
      obtain ⟨q, hq⟩ : ∃ q, U.row[k]? = some q := ⟨_, List.getElem?_eq_getElem (by rw [HD.out.2.2]; exact hlt)⟩
      obtain ⟨b, off, rfl, hcs⟩ := HD.out.2.1.resolve_left (by intro e; have := HD.out.2.2; rw [e] at this; simp at this; omega)
      have c2 := (below_fr HB.out (fun _ => False)).cell (hcs k q hq).1 (fun e => e)
      have hst : lpN U.row i (k + 1) = if q.b = i then (k : Int) else lpN U.row i k := by
        rw [lpN, hq]; simp
      obtain ⟨qb, hqb⟩ : ∃ qb, q.b = qb := ⟨_, rfl⟩
      rw [hqb] at c2 hst
      obtain ⟨p, hp⟩ : ∃ p, lpN U.row i k = p := ⟨_, rfl⟩
      rw [hp] at lp hst ⊢
      have HS : Hid (lpN U.row i (k + 1) = if qb = i then (k : Int) else p) := hst
      clear hcs hq hqb hp hst
      by_cases hqi : qb = i
      · subst hqi
        go_wp2
        exact ⟨⟨k + 1, rfl, hlt, by rw [HS.out, if_pos rfl], HB.out⟩, by simp [intOf]; omega⟩
      · go_wp2
        exact ⟨⟨k + 1, rfl, hlt, by rw [HS.out, if_neg hqi], HB.out⟩, by simp [intOf]; omega⟩
    · have e : k = n := by omega
      subst e
      obtain ⟨p, hp⟩ : ∃ p, lpN U.row i k = p := ⟨_, rfl⟩
      rw [hp] at lp ⊢
      go_wp2
      go_ret
      exact ⟨by rw [hp]; rfl, HB.out⟩
end Go.Proofs.YtflienghgobmoaaGreatDoor

namespace Go.Proofs.YtflienghgobmoaaGreatDoor
open Go.RowKit Rec
theorem cells_at (L : List ActR) (i : Nat) (q : ActR) (h : L[i]? = some q) : (L.flatMap ActR.cells)[i * 3]? = some (.int .i64 q.kind) ∧ (L.flatMap ActR.cells)[i * 3 + 1]? = some (.int .i64 q.b) ∧ (L.flatMap ActR.cells)[i * 3 + 2]? = some (.slice q.a q.x.length q.c) := by
  induction L generalizing i with
  | nil => simp at h
  | cons p L ih =>
    cases i with
    | zero => cases h; exact ⟨rfl, rfl, rfl⟩
    | succ i =>
      have := ih i (by simpa using h)
      have e : (i + 1) * 3 = i * 3 + 3 := by omega
      rw [e]
      exact this
theorem RAct.bytes {w : World} {nb : Nat} {q : ActR} (h : RAct w nb q) : Bytes w q.a q.x := by
  rcases h with ⟨_, _, _, _, g, e, ho⟩ | ⟨_, _, e, _, e2⟩
  · rw [e]; exact ho.bytes
  · rw [e, e2]; exact ⟨by simp, fun i => by simp [nth], .inl rfl⟩
theorem RAct.ok {w : World} {nb : Nat} {q : ActR} (h : RAct w nb q) : actE nb q = 0 := by
  unfold actE
  rcases h with ⟨h1, h2, h3, h4, _⟩ | ⟨h1, _⟩
  · rw [if_pos h1, if_pos ⟨h2, h3⟩, if_pos h4]
  · rw [if_neg (by omega), if_pos h1]
/-- its acts, to be read -/
theorem RDisk.at_ {w : World} {D : RDk} (h : RDisk w D) : ∃ a c, D.av = .slice a D.L.length c ∧ Acts w a D.L := by
  obtain ⟨a, c, e, _⟩ := owns_slice h.acts
  refine ⟨a, c, e, ?_, fun q hq => (h.each q hq).bytes, by have := h.llen; omega⟩
  by_cases h0 : D.L = []
  · exact .inl h0
  · rcases h.acts.2 with ⟨_, e2⟩ | ⟨g, cap, cur, e2, _⟩
    · exact absurd (List.eq_nil_of_length_eq_zero e2) h0
    · rw [e] at e2
      cases e2
      refine .inr ⟨g, 0, rfl, fun i q hq => ?_⟩
      have hc := fun j u hj => World.ownsRow.cells h.acts (g := g) (by rw [e]; rfl) j u hj
      obtain ⟨e0, e1, e2⟩ := cells_at D.L i q hq
      have t := fun j u hj => by have := hc j u hj; rw [Addr.add_lit, Nat.zero_add] at this; exact this
      rw [Nat.zero_add]
      exact ⟨t _ _ e0, t _ _ e1, t _ _ e2⟩
theorem RDisk.kept {w : World} {D : RDk} (h : RDisk w D) : ∃ a c, D.kv = .slice a D.keep.length c ∧ Bools w D.kv D.keep := by
  obtain ⟨a, c, e, _⟩ := owns_slice h.keep
  refine ⟨a, c, e, a, c, e, ?_⟩
  by_cases h0 : D.keep = []
  · exact .inl h0
  · rcases h.keep.2 with ⟨_, e2⟩ | ⟨g, cap, cur, e2, _⟩
    · exact absurd (List.eq_nil_of_length_eq_zero e2) h0
    · rw [e] at e2
      cases e2
      refine .inr ⟨g, 0, rfl, fun i x hx => ?_⟩
      have := World.ownsRow.cells h.keep (g := g) (by rw [e]; rfl) i (.bool x) (by rw [List.getElem?_map, hx]; rfl)
      rw [Addr.add_lit] at this
      exact this
end Go.Proofs.YtflienghgobmoaaGreatDoor

namespace Go.Proofs.YtflienghgobmoaaGreatDoor
open Go.RowKit Rec
end Go.Proofs.YtflienghgobmoaaGreatDoor

namespace Go.Proofs.YtflienghgobmoaaGreatDoor
open Go.RowKit Rec
/-- the last write of a block among the first k acts -/
def rdS (L : List ActR) (i : Int) : Nat → Option (List Int)
  | 0 => none
  | k + 1 => if (actN L k).kind = 1 ∧ (actN L k).b = i then some (actN L k).x else rdS L i k
/-- what a block reads -/
def RDk.read (D : RDk) (k : Nat) : List Int := (rdS D.L k D.L.length).getD ((D.f.drop (k * 512)).take 512)
set_option maxRecDepth 100000 in
set_option maxHeartbeats 4000000 in
theorem rread_ok (w : World) (D : RDk) (h : RDisk w D) (ho : D.out = false) (k : Nat) (hk : k < D.nb) : Calls Tryz.prog 105 #[.pointer (some ⟨D.r, 0, none⟩), .int .i64 (k : Int)] w fun e w' => ∃ g cap, e = .returned (.tuple #[.slice (some ⟨g, 0, none⟩) 512 cap, .int .i64 0]) ∧ w.heap.size ≤ g ∧ OwnB w' g cap (D.read k) ∧ Below w.heap.size w w' := by
  obtain ⟨aa, ac, ha, hA⟩ := h.at_
  have HD : Hid (RDisk w D ∧ Acts w aa D.L) := ⟨h, hA⟩
  have HC : Hid (∀ wx, Below w.heap.size w wx → wx.cell? ⟨D.r, 0, none⟩ = some (.slice (some ⟨D.gf, 0, none⟩) (512 * D.nb) D.cf) ∧ wx.cell? ⟨D.r, 1, none⟩ = some (.slice aa D.L.length ac) ∧ wx.cell? ⟨D.r, 4, none⟩ = some (.bool false)) := fun wx hb => ⟨(h.on hb).cell 0, by rw [← ha]; exact (h.on hb).cell 1, by rw [(h.on hb).cell 4, ← ho]; rfl⟩
  have CB : Hid (Calls Tryz.prog 79 #[.pointer (some ⟨D.r, 0, none⟩)] w fun e w' => e = .returned (.int .i64 (D.nb : Int)) ∧ Below w.heap.size w w') := rdblocks_any w D h
  have hL := h.llen
  have hn := h.nb0.2
  obtain ⟨n, hn1⟩ : ∃ n, D.L.length = n := ⟨_, rfl⟩
  have HN : Hid (D.L.length = n ∧ k < D.nb) := ⟨hn1, hk⟩
  rw [hn1] at HC hL
  obtain ⟨c0, c1, c4⟩ := HC.out w (Below.refl _ _)
  have hk' : (k : Int) < (D.nb : Int) := by omega
  have hk2 : ¬ ((D.nb : Int) ≤ (k : Int)) := by omega
  have hk0 : decide ((k : Int) < 0) = false := decide_eq_false (by omega)
  have hk4 : decide (D.nb ≤ k) = false := decide_eq_false (by omega)
  have hk5 : ¬ (D.nb ≤ k) := by omega
  clear h ha hA hn1 ho
  go_enter Tryz.func105, Tryz.ntmps105
  go_upto_region 5 with (go_at_call 79; refine CB.out.mono ?_; rintro e w1 ⟨rfl, hb1⟩; have H1 : Hid (Below w.heap.size w w1) := hb1; obtain ⟨d0, d1, d4⟩ := HC.out w1 hb1; clear hb1)
  clear CB c0 c1 c4
  go_wp2
  go_loopw [6] (fun s6 wr => ∃ m : Nat, s6 = .int .i64 ((m : Int) - 1) ∧ m ≤ n ∧ rdS D.L k n = rdS D.L k m ∧ Below w.heap.size w wr) (fun s6 _ => (intOf s6 + 1).toNat)
  case atStart => exact ⟨n, rfl, Nat.le_refl _, rfl, H1.out⟩
  case round =>
    obtain ⟨m, rfl, hm, hI⟩ := hrel
    have HI : Hid (rdS D.L k n = rdS D.L k m ∧ Below w.heap.size w wr) := hI
    clear hI d0 d1 d4
    obtain ⟨d0, d1, d4⟩ := HC.out wr HI.out.2
    by_cases h0 : m = 0
    · subst h0
      have hsub := (HD.out.1.on HI.out.2).first.sub (k * 512) 512 (by rw [HD.out.1.flen]; have := HN.out.2; omega)
      have hrm := HD.out.1.first.room
      rw [HD.out.1.flen] at hrm
      have CC : Hid (∀ c, Calls Tryz.prog 20 #[.slice (some ⟨D.gf, k * 512, none⟩) 512 c] wr fun e w' => ∃ g cap, e = .returned (.slice (some ⟨g, 0, none⟩) 512 cap) ∧ wr.heap.size ≤ g ∧ OwnB w' g cap ((D.f.drop (k * 512)).take 512) ∧ Below wr.heap.size wr w') := fun c => copied_any wr ⟨D.gf, k * 512, none⟩ 512 c _ hsub (by rw [List.length_take, List.length_drop, HD.out.1.flen]; have := HN.out.2; omega) (by omega) (by omega)
      have HRd : Hid (D.read k = (D.f.drop (k * 512)).take 512) := by
        unfold RDk.read
        rw [HN.out.1, HI.out.1]
        rfl
      have hk3 : (k : Int) < 16384 := by omega
      clear hsub
      go_wp2_with (go_at_call 20; refine (CC.out _).mono ?_; rintro e u ⟨g, cap, rfl, h1, h2, h3⟩; have G1 : Hid (wr.heap.size ≤ g ∧ OwnB u g cap ((D.f.drop (k * 512)).take 512) ∧ Below wr.heap.size wr u) := ⟨h1, h2, h3⟩; clear h1 h2 h3)
      go_ret2
      exact ⟨g, cap, rfl, Nat.le_trans HI.out.2.size G1.out.1, by rw [HRd.out]; exact G1.out.2.1, HI.out.2.trans (G1.out.2.2.mono HI.out.2.size)⟩
    · obtain ⟨j, rfl⟩ : ∃ j, m = j + 1 := ⟨m - 1, by omega⟩
      have ej : ((j + 1 : Nat) : Int) - 1 = (j : Int) := by omega
      rw [ej]
      have hjn : (j : Int) < (n : Int) := by omega
      obtain ⟨b, off, rfl, hcs⟩ := (HD.out.2.on HI.out.2).cellsAt (by rw [HN.out.1]; omega)
      have hq := hcs j (by rw [HN.out.1]; omega)
      have hmem : actN D.L j ∈ D.L := List.mem_of_getElem? (actN_some (by rw [HN.out.1]; omega))
      have hR := (HD.out.1.each _ hmem).on HI.out.2
      have f0 := hq.f0
      have f1 := hq.f1
      have f2 := hq.f2
      have hst : rdS D.L k (j + 1) = if (actN D.L j).kind = 1 ∧ (actN D.L j).b = k then some (actN D.L j).x else rdS D.L k j := rfl
      obtain ⟨q, hqe⟩ : ∃ q, actN D.L j = q := ⟨_, rfl⟩
      rw [hqe] at f0 f1 f2 hst hR
      clear hcs hq hmem hqe
      obtain ⟨kd, qb, qa, qc, qx⟩ := q
      dsimp only at f0 f1 f2 hst
      by_cases hyes : kd = 1 ∧ qb = (k : Int)
      · obtain ⟨rfl, rfl⟩ := hyes
        rw [if_pos ⟨rfl, rfl⟩] at hst
        have hx512 : qx.length = 512 := by
          rcases hR with ⟨_, _, _, h4, _⟩ | ⟨h1, _⟩
          · exact h4
          · cases h1
        have hby := hR.bytes
        rw [hx512] at f2
        obtain ⟨p, rfl⟩ : ∃ p, qa = some p := by
          rcases hR with ⟨_, _, _, _, g, e, _⟩ | ⟨h1, _⟩
          · exact ⟨_, e⟩
          · cases h1
        have CC : Hid (Calls Tryz.prog 20 #[.slice (some p) 512 qc] wr fun e w' => ∃ g cap, e = .returned (.slice (some ⟨g, 0, none⟩) 512 cap) ∧ wr.heap.size ≤ g ∧ OwnB w' g cap qx ∧ Below wr.heap.size wr w') := copied_any wr p 512 qc qx hby hx512 (by omega) (by omega)
        have HRd : Hid (D.read k = qx) := by
          unfold RDk.read
          rw [HN.out.1, HI.out.1, hst]
          rfl
        clear hby hR hst hx512
        go_wp2_with (go_at_call 20; refine CC.out.mono ?_; rintro e u ⟨g, cap, rfl, h1, h2, h3⟩; have G1 : Hid (wr.heap.size ≤ g ∧ OwnB u g cap qx ∧ Below wr.heap.size wr u) := ⟨h1, h2, h3⟩; clear h1 h2 h3)
        go_ret2
        exact ⟨g, cap, rfl, Nat.le_trans HI.out.2.size G1.out.1, by rw [HRd.out]; exact G1.out.2.1, HI.out.2.trans (G1.out.2.2.mono HI.out.2.size)⟩
      · rw [if_neg hyes] at hst
        have HS : Hid (rdS D.L k n = rdS D.L k j) := HI.out.1.trans hst
        clear hst hR
        by_cases hkd : kd = 1
        · have hqb : ¬ qb = (k : Int) := fun e => hyes ⟨hkd, e⟩
          subst hkd
          go_wp2
          go_round
          case rel => exact ⟨j, rfl, by omega, HS.out, HI.out.2⟩
          case measure => simp [intOf]
        · go_wp2
          go_roundw
          case rel =>
            first
              | exact ⟨j, rfl, by omega, HS.out, HI.out.2⟩
              | ((repeat apply Exists.intro)
                 refine ⟨?_, rfl⟩
                 exact ⟨j, rfl, by omega, HS.out, HI.out.2⟩)
          case measure => simp [intOf]
end Go.Proofs.YtflienghgobmoaaGreatDoor

namespace Go.Proofs.YtflienghgobmoaaGreatDoor
open Go.RowKit Rec
set_option maxRecDepth 100000 in
set_option maxHeartbeats 1600000 in
theorem rread_out (w : World) (D : RDk) (h : RDisk w D) (ho : D.out = true) (i : Int) : Calls Tryz.prog 105 #[.pointer (some ⟨D.r, 0, none⟩), .int .i64 i] w fun e w' => e = .returned (.tuple #[.slice none 0 0, .int .i64 30]) ∧ w = w' := by
  have c4 : w.cell? ⟨D.r, 4, none⟩ = some (.bool true) := by rw [h.cell 4, ← ho]; rfl
  clear h
  go_enter Tryz.func105, Tryz.ntmps105
  go_wp2
  go_ret2
  exact ⟨rfl, rfl⟩
end Go.Proofs.YtflienghgobmoaaGreatDoor

namespace Go.Proofs.YtflienghgobmoaaGreatDoor
open Go.RowKit Rec
end Go.Proofs.YtflienghgobmoaaGreatDoor

namespace Go.Proofs.YtflienghgobmoaaGreatDoor
open Go.RowKit Rec
/-- the tape from an act on -/
def tpB (L : List ActR) (fr : Int) : Nat → List (Int × Int × List Int)
  | 0 => []
  | k + 1 => if fr ≤ (k : Int) then tpB L fr k ++ [((actN L k).kind, (actN L k).b, (actN L k).x)] else tpB L fr k
/-- a told tape, in a row of one's own -/
structure TpI (w wr : World) (v : Value) (T : List (Int × Int × List Int)) (M : List ActR) : Prop where
  row : wr.ownsRow 0 177 3 v T.length (M.flatMap ActR.cells)
  same : M.map (fun q => (q.kind, q.b, q.x)) = T
  each : ∀ q ∈ M, ∃ g, RwA g wr q.a q.c q.x ∧ w.heap.size ≤ g
  top : ∀ b, v.ownBlock = some b → w.heap.size ≤ b
theorem TpI.add {w wr wx w' : World} {v : Value} {T : List (Int × Int × List Int)} {M : List ActR} {q : ActR} {b cap g : Nat} (h : TpI w wr v T M) (hb : Below wr.heap.size wr wx) (hs : w.heap.size ≤ wr.heap.size) (hq : RwA g wx q.a q.c q.x) (hg : w.heap.size ≤ g)
    (h1 : w'.ownsRow 0 177 3 (.slice (some ⟨b, 0, none⟩) (T.length + 1) cap) (T.length + 1) (M.flatMap ActR.cells ++ q.cells)) (h2 : Fr (fun k => v.ownBlock = some k) wx w') (h3 : v.ownBlock = some b ∨ wx.heap.size ≤ b) :
    TpI w w' (.slice (some ⟨b, 0, none⟩) (T.length + 1) cap) (T ++ [(q.kind, q.b, q.x)]) (M ++ [q]) := by
  have hown : wx.ownsRow 0 177 3 v T.length (M.flatMap ActR.cells) := owns_fr h.row (below_fr hb (fun _ => False)) (fun _ _ e => e)
  have t : ∀ p : ActR, ∀ g, RwA g wx p.a p.c p.x → RwA g w' p.a p.c p.x := fun p g hp => by
    rcases hp with hp | ⟨q, e, ho, hB⟩
    · exact .inl hp
    · exact .inr ⟨q, e, ownB_fr ho h2 (fun e2 => own_apart7 hown ho (by decide) e2), hB⟩
  refine ⟨?_, by rw [List.map_append, h.same]; rfl, fun p hp => ?_, fun c hc => ?_⟩
  · rw [List.length_append, List.flatMap_append]
    simpa using h1
  · rcases List.mem_append.1 hp with hp | hp
    · obtain ⟨g, h4, h5⟩ := h.each p hp
      exact ⟨g, t p g (h4.on hb), h5⟩
    · rw [List.mem_singleton.1 hp]; exact ⟨g, t q g hq, hg⟩
  · cases hc
    rcases h3 with e | e
    · exact h.top _ e
    · exact Nat.le_trans hs (Nat.le_trans hb.size e)
end Go.Proofs.YtflienghgobmoaaGreatDoor

namespace Go.Proofs.YtflienghgobmoaaGreatDoor
open Go.RowKit Rec

/-- the same disk but for what was counted -/
structure Sim (a b : AD) : Prop where
  nb : a.nb = b.nb
  las : a.las = b.las
  P : a.P = b.P
  a0 : a.at_ = 0
  b0 : b.at_ = 0
theorem take_w {a : AD} {q : ActR} (h : a.at_ = 0) (hk : q.kind = 1) : a.tk1 q = { a with P := a.P ++ [(q.b.toNat, q.x)], T := a.T ++ [(1, ((q.b.toNat : Nat) : Int), q.x)], wr := a.wr + 1 } := by
  unfold AD.tk1
  rw [if_pos hk]
  unfold AD.write
  rw [if_neg (by rw [h]; decide)]
  show AD.tick _ = _
  unfold AD.tick
  exact if_neg (by show ¬ (0 : Int) < a.at_; rw [h]; decide)
theorem take_f {a : AD} {q : ActR} (h : a.at_ = 0) (hk : ¬ q.kind = 1) : a.tk1 q = { a with fl := a.fl + 1, T := a.T ++ [(2, 0, [])], las := a.full, P := [] } := by
  unfold AD.tk1
  rw [if_neg hk]
  exact do_f 0 0 h
theorem full_sim {a b : AD} (hl : a.las = b.las) (hP : a.P = b.P) : a.full = b.full := by
  unfold AD.full AD.f AD.X
  rw [hl, hP]
theorem Sim.take {a b : AD} (h : Sim a b) {q r : ActR} (h1 : q.kind = r.kind) (h2 : q.b = r.b) (h3 : q.x = r.x) : Sim (a.tk1 q) (b.tk1 r) := by
  by_cases hk : q.kind = 1
  · rw [take_w h.a0 hk, take_w h.b0 (h1 ▸ hk)]
    exact ⟨h.nb, h.las, by show a.P ++ _ = b.P ++ _; rw [h.P, h2, h3], h.a0, h.b0⟩
  · rw [take_f h.a0 hk, take_f h.b0 (h1 ▸ hk)]
    exact ⟨h.nb, full_sim h.las h.P, rfl, h.a0, h.b0⟩
/-- what of an act counts -/
def ActR.abs (q : ActR) : Int × Int × List Int := (q.kind, q.b, q.x)
theorem abs_getD {L M : List ActR} (h : L.map ActR.abs = M.map ActR.abs) (k : Nat) : (L.getD k ⟨0, 0, none, 0, []⟩).abs = (M.getD k ⟨0, 0, none, 0, []⟩).abs := by
  have e : (L.map ActR.abs)[k]? = (M.map ActR.abs)[k]? := by rw [h]
  rw [List.getElem?_map, List.getElem?_map] at e
  simp only [List.getD]
  cases h1 : L[k]? with
  | none =>
    cases h2 : M[k]? with
    | none => rfl
    | some r => rw [h1, h2] at e; cases e
  | some q =>
    cases h2 : M[k]? with
    | none => rw [h1, h2] at e; cases e
    | some r => rw [h1, h2] at e; exact Option.some.inj e
theorem Sim.takes {a b : AD} (h : Sim a b) {L M : List ActR} (hL : L.map ActR.abs = M.map ActR.abs) (k : Nat) : Sim (a.takes L k) (b.takes M k) := by
  induction k with
  | zero => exact h
  | succ k ih =>
    have e := abs_getD hL k
    simp only [ActR.abs, Prod.mk.injEq] at e
    exact ih.take e.1 e.2.1 e.2.2
theorem Sim.cut {a b : AD} (h : Sim a b) (kp : Nat → Bool) : (a.cut kp).las = (b.cut kp).las := by
  show lay kp a.f a.X a.las a.P.length = lay kp b.f b.X b.las b.P.length
  unfold AD.f AD.X
  rw [h.las, h.P]
/-- acts in a row of one's own -/
def OkAct (w : World) (m : Nat) (q : ActR) : Prop := (q.kind = 2 ∧ q.a = none ∧ q.c = 0 ∧ q.x = []) ∨ (q.kind = 1 ∧ 0 ≤ q.b ∧ q.b < m ∧ q.x.length = 512 ∧ ∃ g cap, q.a = some ⟨g, 0, none⟩ ∧ OwnB w g cap q.x)
structure AcR (w : World) (m : Nat) (v : Value) (L : List ActR) : Prop where
  row : w.ownsRow 0 177 3 v L.length (L.flatMap ActR.cells)
  each : ∀ q ∈ L, OkAct w m q
theorem OkAct.on {w w' : World} {m : Nat} {q : ActR} (h : OkAct w m q) (x : Below w.heap.size w w') : OkAct w' m q := by
  rcases h with h | ⟨h1, h2, h3, h4, g, cap, h5, h6⟩
  · exact .inl h
  · exact .inr ⟨h1, h2, h3, h4, g, cap, h5, h6.on x⟩
theorem OkAct.fr {S : Nat → Prop} {w w' : World} {m : Nat} {q : ActR} (h : OkAct w m q) (x : Fr S w w') (hS : ∀ g cap, OwnB w g cap q.x → ¬ S g) : OkAct w' m q := by
  rcases h with h | ⟨h1, h2, h3, h4, g, cap, h5, h6⟩
  · exact .inl h
  · exact .inr ⟨h1, h2, h3, h4, g, cap, h5, h6.fr x (hS g cap h6)⟩
theorem AcR.on {w w' : World} {m : Nat} {v : Value} {L : List ActR} (h : AcR w m v L) (x : Below w.heap.size w w') : AcR w' m v L :=
  ⟨owns_fr h.row (below_fr x (fun k => w.heap.size ≤ k)) (fun _ hk => Nat.not_le.2 (owns_block h.row hk)), fun q hq => (h.each q hq).on x⟩
theorem flat3 (f : ActR → List Value) (l : List ActR) (k : Nat) (hk : k < l.length) (j : Nat) (hj : j < 3) (hf : ∀ p, (f p).length = 3 := by intro p; rfl) : (l.flatMap f)[k * 3 + j]? = (f l[k])[j]? := by
  induction l generalizing k with
  | nil => simp at hk
  | cons p l ih =>
    rw [List.flatMap_cons]
    cases k with
    | zero => rw [List.getElem?_append_left (by rw [hf]; omega)]; simp
    | succ k =>
      rw [List.getElem?_append_right (by rw [hf]; omega), hf, show (k + 1) * 3 + j - 3 = k * 3 + j by omega, ih k (by simpa using hk)]; rfl
theorem OkAct.bytes {w : World} {m : Nat} {q : ActR} (h : OkAct w m q) : Bytes w q.a q.x ∧ actE m q = 0 := by
  rcases h with ⟨h1, h2, h3, h4⟩ | ⟨h1, h2, h3, h4, g, cap, h5, h6⟩
  · refine ⟨by rw [h2, h4]; exact ⟨by simp, fun i => by simp [nth], .inl rfl⟩, ?_⟩
    unfold actE
    rw [if_neg (by rw [h1]; decide), if_pos h1]
  · refine ⟨by rw [h5]; exact h6.bytes, ?_⟩
    unfold actE
    rw [if_pos h1, if_pos ⟨h2, h3⟩, if_pos h4]
theorem AcR.acts {w : World} {m : Nat} {a : Option Addr} {n c : Nat} {L : List ActR} (h : AcR w m (.slice a n c) L) (hl : L.length ≤ 3518437208780) : n = L.length ∧ Acts w a L ∧ ∀ q ∈ L, actE m q = 0 := by
  obtain ⟨a', c', hv, _, hg, hc⟩ := owns_slice h.row
  cases hv
  refine ⟨rfl, ⟨?_, fun q hq => (h.each q hq).bytes.1, hl⟩, fun q hq => (h.each q hq).bytes.2⟩
  rcases hg with h0 | ⟨g, rfl⟩
  · exact .inl (List.eq_nil_of_length_eq_zero h0)
  · refine .inr ⟨g, 0, rfl, fun i q hq => ?_⟩
    have hi : i < L.length := by
      by_cases hi : i < L.length
      · exact hi
      · rw [List.getElem?_eq_none (by omega)] at hq; cases hq
    have e : L[i] = q := by rw [List.getElem?_eq_getElem hi] at hq; exact Option.some.inj hq
    have c1 := (hc g 0 rfl).2.1
    rw [Nat.zero_add]
    exact ⟨c1 _ _ (by have := flat3 ActR.cells L i hi 0 (by omega); rw [e] at this; exact this), c1 _ _ (by have := flat3 ActR.cells L i hi 1 (by omega); rw [e] at this; exact this), c1 _ _ (by have := flat3 ActR.cells L i hi 2 (by omega); rw [e] at this; exact this)⟩
end Go.Proofs.YtflienghgobmoaaGreatDoor

namespace Go.Proofs.YtflienghgobmoaaGreatDoor
open Go.RowKit Rec

theorem ownA_ne {w : World} {g cap : Nat} {x : List Int} {v : Value} {n : Nat} {xs : List Value} (hO : OwnB w g cap x) (h : w.ownsRow 0 177 3 v n xs) : ¬ v.ownBlock = some g := fun e => by
  obtain ⟨cur, hg, _⟩ := hO.row
  rcases h.2 with ⟨rfl, _⟩ | ⟨g', cap', cur', rfl, _, hg', _⟩
  · cases e
  · cases e
    rw [hg] at hg'
    cases hg'
theorem AcR.frs {S : Nat → Prop} {w w' : World} {m : Nat} {v : Value} {L : List ActR} (h : AcR w m v L) (x : Fr S w w') (h1 : ∀ k, v.ownBlock = some k → ¬ S k) (h2 : ∀ q ∈ L, ∀ p, q.a = some p → ¬ S p.block) : AcR w' m v L :=
  ⟨owns_fr h.row x h1, fun q hq => by
    rcases h.each q hq with z | ⟨z1, z2, z3, z4, g, cap, z5, z6⟩
    · exact .inl z
    · exact .inr ⟨z1, z2, z3, z4, g, cap, z5, z6.fr x (h2 q hq _ z5)⟩⟩
/-- within the tape's copying -/
structure TpW (w wr : World) (m : Nat) (v : Value) (T : List (Int × Int × List Int)) (k : Nat) (L : List ActR) : Prop where
  row : AcR wr m v L
  len : L.length = k
  ab : L.map ActR.abs = T.take k
  own : ∀ j, v.ownBlock = some j → w.heap.size ≤ j
  adr : ∀ q ∈ L, ∀ p, q.a = some p → w.heap.size ≤ p.block
  bel : Below w.heap.size w wr
theorem TpW.next {w wr wa wb : World} {m g cap k : Nat} {v : Value} {T : List (Int × Int × List Int)} {L : List ActR} {q : Int × Int × List Int} {r : ActR} (h : TpW w wr m v T k L) (hq : T[k]? = some q) (ha : Below wr.heap.size wr wa) (hr : OkAct wa m r) (hab : r.abs = q) (hra : ∀ p, r.a = some p → w.heap.size ≤ p.block)
    (ho : wb.ownsRow 0 177 3 (.slice (some ⟨g, 0, none⟩) (k + 1) cap) (k + 1) (L.flatMap ActR.cells ++ r.cells)) (hf : Fr (fun j => v.ownBlock = some j) wa wb) (hg : v.ownBlock = some g ∨ wa.heap.size ≤ g) : TpW w wb m (.slice (some ⟨g, 0, none⟩) (k + 1) cap) T (k + 1) (L ++ [r]) := by
  refine ⟨⟨by rw [List.length_append, List.flatMap_append, h.len]; simpa using ho, fun x hx => ?_⟩, by rw [List.length_append, h.len]; rfl, ?_, fun j hj => ?_, fun x hx => ?_, ?_⟩
  · rcases List.mem_append.1 hx with hx | hx
    · exact ((h.row.each x hx).on ha).fr hf (fun g cap hO => ownA_ne hO (h.row.on ha).row)
    · rw [List.mem_singleton] at hx; subst hx
      exact hr.fr hf (fun g cap hO => ownA_ne hO (h.row.on ha).row)
  · rw [List.map_append, h.ab, List.take_add_one, hq]
    show _ ++ [r.abs] = _ ++ [q]
    rw [hab]
  · cases hj
    exact hg.elim (h.own g) (fun e => Nat.le_trans h.bel.size (Nat.le_trans ha.size e))
  · rcases List.mem_append.1 hx with hx | hx
    · exact h.adr x hx
    · rw [List.mem_singleton] at hx; subst hx; exact hra
  · exact (h.bel.trans (ha.mono h.bel.size)).trans (hf.below _ h.own (Nat.le_trans h.bel.size ha.size))
end Go.Proofs.YtflienghgobmoaaGreatDoor

namespace Go.Proofs.YtflienghgobmoaaGreatDoor
open Go.RowKit Rec

end Go.Proofs.YtflienghgobmoaaGreatDoor

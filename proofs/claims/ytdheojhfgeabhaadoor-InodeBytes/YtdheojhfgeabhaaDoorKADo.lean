import Derived.Test.YtdheojhfgeabhaaDoorKWalM
import Derived.Test.YtdheojhfgeabhaaDoorKWLa
import Derived.Test.YtdheojhfgeabhaaDoorKWRo
namespace Go.Proofs.YtdheojhfgeabhaaDoor
open Go.RowKit Rec

/-- what a put does -/
def AD.do (a : AD) (b x : Int) (fl : Bool) : AD := if fl then a.flush else a.write (b % a.nb).toNat (one x)
end Go.Proofs.YtdheojhfgeabhaaDoor

namespace Go.Proofs.YtdheojhfgeabhaaDoor
open Go.RowKit Rec

/-- block i full of i -/
def frs (m : Nat) : List Int := (List.range m).flatMap (fun i : Nat => one (i : Int))
theorem frs_succ (m : Nat) : frs (m + 1) = frs m ++ one (m : Int) := by
  unfold frs
  rw [List.range_succ, List.flatMap_append]; simp
theorem frs_length (m : Nat) : (frs m).length = 512 * m := by
  induction m with
  | zero => rfl
  | succ m ih => rw [frs_succ, List.length_append, ih, one_length]; omega
theorem nth_frs (m i : Nat) (h : i < 512 * m) : nth (frs m) i = ((i / 512 : Nat) : Int) := by
  induction m with
  | zero => omega
  | succ m ih =>
    rw [frs_succ, nth_app, frs_length]
    by_cases h2 : i < 512 * m
    · rw [if_pos h2]; exact ih h2
    · rw [if_neg h2, one, nth_rep _ _ _ (by omega), show i / 512 = m by omega]
theorem wf_frs (m : Nat) (hm : m ≤ 256) : ∀ i, 0 ≤ nth (frs m) i ∧ nth (frs m) i < 256 := fun i => by
  by_cases h : i < 512 * m
  · rw [nth_frs m i h]; omega
  · rw [nth_out _ _ (by rw [frs_length]; omega)]; omega
theorem blk_frs (m i : Nat) (hi : i < m) : bck (frs m) i = one (i : Int) := by
  refine ext_nth (by rw [blk_length (frs_length m) hi, one_length]) fun j hj => ?_
  rw [blk_length (frs_length m) hi] at hj
  rw [nth_blk (frs_length m) hi j hj, nth_frs m _ (by omega), one, nth_rep _ _ _ hj, show (512 * i + j) / 512 = i by omega]
end Go.Proofs.YtdheojhfgeabhaaDoor

namespace Go.Proofs.YtdheojhfgeabhaaDoor
open Go.RowKit Rec

/-- an act among the arguments -/
structure ActR where
  kind : Int
  b : Int
  a : Option Addr
  c : Nat
  x : List Int
def ActR.cells (q : ActR) : List Value := [.int .i64 q.kind, .int .i64 q.b, .slice q.a q.x.length q.c]
/-- what of an act counts -/
def ActR.abs (q : ActR) : Int × Int × List Int := (q.kind, q.b, q.x)
/-- acts in a row of one's own -/
def OkAct (w : World) (m : Nat) (q : ActR) : Prop := (q.kind = 2 ∧ q.a = none ∧ q.c = 0 ∧ q.x = []) ∨ (q.kind = 1 ∧ 0 ≤ q.b ∧ q.b < m ∧ q.x.length = 512 ∧ ∃ g cap, q.a = some ⟨g, 0, none⟩ ∧ OwnB w g cap q.x)
structure AcR (w : World) (m : Nat) (v : Value) (L : List ActR) : Prop where
  row : w.ownsRow 0 113 3 v L.length (L.flatMap ActR.cells)
  each : ∀ q ∈ L, OkAct w m q
theorem OkAct.on {w w' : World} {m : Nat} {q : ActR} (h : OkAct w m q) (x : Below w.heap.size w w') : OkAct w' m q := by
  rcases h with h | ⟨h1, h2, h3, h4, g, cap, h5, h6⟩
  · exact .inl h
  · exact .inr ⟨h1, h2, h3, h4, g, cap, h5, h6.on x⟩
theorem OkAct.fr {S : Nat → Prop} {w w' : World} {m : Nat} {q : ActR} (h : OkAct w m q) (x : Fr S w w') (hS : ∀ g cap, OwnB w g cap q.x → ¬ S g) : OkAct w' m q := by
  rcases h with h | ⟨h1, h2, h3, h4, g, cap, h5, h6⟩
  · exact .inl h
  · exact .inr ⟨h1, h2, h3, h4, g, cap, h5, h6.fr x (hS g cap h6)⟩
theorem AcR.on {w w' : World} {m : Nat} {v : Value} {L : List ActR} (h : AcR w m v L) (x : Below w.heap.size w w') : AcR w' m v L :=
  ⟨owns_fr h.row (below_fr x (fun k => w.heap.size ≤ k)) (fun _ hk => Nat.not_le.2 (owns_block h.row hk)), fun q hq => (h.each q hq).on x⟩
theorem flat3 (f : ActR → List Value) (l : List ActR) (k : Nat) (hk : k < l.length) (j : Nat) (hj : j < 3) (hf : ∀ p, (f p).length = 3 := by intro p; rfl) : (l.flatMap f)[k * 3 + j]? = (f l[k])[j]? := by
  induction l generalizing k with
  | nil => simp at hk
  | cons p l ih =>
    rw [List.flatMap_cons]
    cases k with
    | zero => rw [List.getElem?_append_left (by rw [hf]; omega)]; simp
    | succ k =>
      rw [List.getElem?_append_right (by rw [hf]; omega), hf, show (k + 1) * 3 + j - 3 = k * 3 + j by omega, ih k (by simpa using hk)]; rfl

theorem ownA_ne {w : World} {g cap : Nat} {x : List Int} {v : Value} {n : Nat} {xs : List Value} (hO : OwnB w g cap x) (h : w.ownsRow 0 113 3 v n xs) : ¬ v.ownBlock = some g := fun e => by
  obtain ⟨cur, hg, _⟩ := hO.row
  rcases h.2 with ⟨rfl, _⟩ | ⟨g', cap', cur', rfl, _, hg', _⟩
  · cases e
  · cases e
    rw [hg] at hg'
    cases hg'
theorem flatA (l : List Ac) (k : Nat) (hk : k < l.length) (j : Nat) (hj : j < 3) : (l.flatMap Ac.cells)[k * 3 + j]? = (Ac.cells l[k])[j]? := by
  have hf : ∀ p, (Ac.cells p).length = 3 := by intro p; rfl
  induction l generalizing k with
  | nil => simp at hk
  | cons p l ih =>
    rw [List.flatMap_cons]
    cases k with
    | zero => rw [List.getElem?_append_left (by rw [hf]; omega)]; simp
    | succ k =>
      rw [List.getElem?_append_right (by rw [hf]; omega), hf, show (k + 1) * 3 + j - 3 = k * 3 + j by omega, ih k (by simpa using hk)]; rfl
theorem AcR.frs {S : Nat → Prop} {w w' : World} {m : Nat} {v : Value} {L : List ActR} (h : AcR w m v L) (x : Fr S w w') (h1 : ∀ k, v.ownBlock = some k → ¬ S k) (h2 : ∀ q ∈ L, ∀ p, q.a = some p → ¬ S p.block) : AcR w' m v L :=
  ⟨owns_fr h.row x h1, fun q hq => by
    rcases h.each q hq with z | ⟨z1, z2, z3, z4, g, cap, z5, z6⟩
    · exact .inl z
    · exact .inr ⟨z1, z2, z3, z4, g, cap, z5, z6.fr x (h2 q hq _ z5)⟩⟩
/-- within the tape's copying -/
structure TpW (w wr : World) (m : Nat) (v : Value) (T : List (Int × Int × List Int)) (k : Nat) (L : List ActR) : Prop where
  row : AcR wr m v L
  len : L.length = k
  ab : L.map ActR.abs = T.take k
  own : ∀ j, v.ownBlock = some j → w.heap.size ≤ j
  adr : ∀ q ∈ L, ∀ p, q.a = some p → w.heap.size ≤ p.block
  bel : Below w.heap.size w wr
theorem TpW.next {w wr wa wb : World} {m g cap k : Nat} {v : Value} {T : List (Int × Int × List Int)} {L : List ActR} {q : Int × Int × List Int} {r : ActR} (h : TpW w wr m v T k L) (hq : T[k]? = some q) (ha : Below wr.heap.size wr wa) (hr : OkAct wa m r) (hab : r.abs = q) (hra : ∀ p, r.a = some p → w.heap.size ≤ p.block)
    (ho : wb.ownsRow 0 113 3 (.slice (some ⟨g, 0, none⟩) (k + 1) cap) (k + 1) (L.flatMap ActR.cells ++ r.cells)) (hf : Fr (fun j => v.ownBlock = some j) wa wb) (hg : v.ownBlock = some g ∨ wa.heap.size ≤ g) : TpW w wb m (.slice (some ⟨g, 0, none⟩) (k + 1) cap) T (k + 1) (L ++ [r]) := by
  refine ⟨⟨by rw [List.length_append, List.flatMap_append, h.len]; simpa using ho, fun x hx => ?_⟩, by rw [List.length_append, h.len]; rfl, ?_, fun j hj => ?_, fun x hx => ?_, ?_⟩
  · rcases List.mem_append.1 hx with hx | hx
    · exact ((h.row.each x hx).on ha).fr hf (fun g cap hO => ownA_ne hO (h.row.on ha).row)
    · rw [List.mem_singleton] at hx; subst hx
      exact hr.fr hf (fun g cap hO => ownA_ne hO (h.row.on ha).row)
  · rw [List.map_append, h.ab, List.take_add_one, hq]
    show _ ++ [r.abs] = _ ++ [q]
    rw [hab]
  · cases hj
    exact hg.elim (h.own g) (fun e => Nat.le_trans h.bel.size (Nat.le_trans ha.size e))
  · rcases List.mem_append.1 hx with hx | hx
    · exact h.adr x hx
    · rw [List.mem_singleton] at hx; subst hx; exact hra
  · exact (h.bel.trans (ha.mono h.bel.size)).trans (hf.below _ h.own (Nat.le_trans h.bel.size ha.size))
theorem wp_makeA {ops : Array Oper} {rest : List Oper} {o : Oper} {a : Act} {Q : Exit → Act → World → Prop} {w : World} (hg : o.guard = none) (l c : Operand) (hop : o.op = Op.makeSlice 80 l c)
    (kl kc : IntKind) (C : Int) (n : Nat) (hl : a.eval l = .int kl 0) (hc : a.eval c = .int kc C) (hC : C = (n : Int)) (hn : n ≤ 4294967296)
    (hK : ∀ w', w'.ownsRow 0 113 3 (.slice (some ⟨w.heap.size, 0, none⟩) 0 n) 0 [] → Below w.heap.size w w' → wpList Tryd.prog ops Q rest (a.put o.dst (.slice (some ⟨w.heap.size, 0, none⟩) 0 n)) w') :
    wpList Tryd.prog ops Q (o :: rest) a w := by
  obtain ⟨i0, hi, hz0, hz1, hz2⟩ := info_parts infoAct
  refine wpList_make_own w hg l c 80 hop 0 113 i0 _ 3 Tryd.underlying80 hi hz0 hz1 kl kc C n hl hc hC (by rw [hz2]; omega) (by unfold maxLen; omega) (Nat.zero_le _) ?_
  intro w' h1 h2
  exact hK w' h1 ⟨h2.os, h2.tape, h2.output, h2.size, fun k hk => h2.block k hk (by simp)⟩
end Go.Proofs.YtdheojhfgeabhaaDoor

namespace Go.Proofs.YtdheojhfgeabhaaDoor
open Go.RowKit Rec

/-- copy, of whatever bytes: the row has as many as before -/
theorem copy_len {w : World} {g cap : Nat} {l : List Int} (hO : OwnB w g cap l) (ty : TypeId) (off dLen dCap : Nat) (hfit : off + dLen ≤ l.length) (a : Option Addr) (n c : Nat) (m : List Int) (hb : Bytes w a m) (hm : m.length = n) (hc : a = none → c = 0) :
    ∃ k w', (Builtin.copy_ #[25, 25] ty #[.slice (some ⟨g, off, none⟩) dLen dCap, .slice a n c]).run Tryd.prog w = .ok (.int .i64 k) w' ∧ (∃ l', OwnB w' g cap l' ∧ l'.length = l.length) ∧ Fr (fun k => k = g) w w' := by
  cases a with
  | none =>
    have e := hb.nil
    subst e
    have e2 := hc rfl
    subst e2
    simp at hm
    subst hm
    exact ⟨_, w, run_copy_nil (P := Tryd.prog) w 25 25 ty 5 ⟨g, off, none⟩ dLen dCap Tryd.underlying25 (by rw [size5]; rfl), ⟨l, hO, rfl⟩, Fr.refl _ _⟩
  | some ad =>
    obtain ⟨cur, h1, h2, h3⟩ := hO.row
    have hr := hO.room
    have hk : (m.take (Nat.min n dLen)).length = Nat.min n dLen := by rw [List.length_take, hm]; exact Nat.min_eq_left (Nat.min_le_left _ _)
    have hle : Nat.min n dLen ≤ dLen := Nat.min_le_right _ _
    have hbk : Bytes w (Option.some ad) (m.take (Nat.min n dLen)) := hb.take _
    have r1 := run_copy_row (P := Tryd.prog) w 25 25 ty 5 g off dLen dCap ad n c cur 5 ((m.take (Nat.min n dLen)).map (Value.int .u8)) Tryd.underlying25 sizeU8 h1 (by rw [List.length_map, hk]) hbk.news (by rw [List.length_map, hk]; omega) (cells_u8 _)
    have r2 := run_copy_row (P := Tryd.prog) w 25 25 ty 5 g off dLen dCap ad (Nat.min n dLen) c cur 5 ((m.take (Nat.min n dLen)).map (Value.int .u8)) Tryd.underlying25 sizeU8 h1 (by rw [List.length_map, hk]; exact (Nat.min_eq_left hle).symm) hbk.news (by rw [List.length_map, hk]; omega) (cells_u8 _)
    obtain ⟨w', e1, e2, e3⟩ := copyB_run (off := off) (dLen := dLen) (dCap := dCap) ty ad (Nat.min n dLen) c (m.take (Nat.min n dLen)) hO hbk hk hle (by omega)
    exact ⟨_, w', by rw [r1, ← r2]; exact e1, ⟨_, e2, by rw [ov_length]⟩, e3⟩
/-- a disk that was opened over bytes -/
structure Fresh (a : AD) (nb : Nat) (l : List Int) : Prop where
  size : a.nb = nb
  las : a.las = l
  pen : a.P = []
  down : a.down = false
  at_ : a.at_ = 0
  len : l.length = 512 * nb
  wr : a.wr = 0
  fl : a.fl = 0
  tape : a.T = []
  keep : a.keep = []
theorem Fresh.full {D : Dk} {nb : Nat} {l : List Int} (h : Fresh D.abs nb l) : D.full = l := by rw [abs_full, AD.full_fw, h.pen, h.las]; rfl
theorem Fresh.room {a : AD} {nb : Nat} {l : List Int} (h : Fresh a nb l) (n : Nat) (hn : n ≤ 1000000) : RoomN a n := ⟨by rw [h.pen]; simp; omega, by rw [h.tape]; simp; omega, by rw [h.wr]; omega, by rw [h.fl]; omega, by rw [h.keep]; simp⟩
theorem Fresh.openE {D : Dk} {nb : Nat} {l : List Int} (h : Fresh D.abs nb l) : openE D = logE l nb := by
  have hd : D.down = false := h.down
  have hb : D.nb = nb := h.size
  unfold Go.Proofs.YtdheojhfgeabhaaDoor.openE
  rw [hd, h.full, hb]; rfl
theorem numsE_two (h : List Int) (n : Int) (hl : h.length = 512) : numsE h n = 0 ∨ numsE h n = 41 := by
  unfold numsE
  rw [if_pos hl]
  split
  · exact .inl rfl
  · split
    · exact .inl rfl
    · exact .inr rfl
theorem logE_vals (l : List Int) (nb : Nat) (hl : l.length = 512 * nb) (hn : 98 ≤ nb) : logE l nb = 0 ∨ logE l nb = 41 := by
  unfold logE
  rw [if_neg (by omega)]
  split
  · split
    · exact .inl rfl
    · exact .inr rfl
  · rcases numsE_two (bck l 1) nb (bck_length l 1 nb hl (by omega)) with e | e
    · exact .inl e
    · exact .inr e
theorem grp_mem (gs : List (List (Nat × List Int))) (t : WA) (h : t ∈ grp gs) : t = none ∨ ∃ ws ∈ gs, ∃ p ∈ ws, t = some p := by
  induction gs with
  | nil => simp [grp] at h
  | cons ws gs ih =>
    rw [grp] at h
    rcases List.mem_append.1 h with h | h
    · obtain ⟨p, hp, rfl⟩ := List.mem_map.1 h
      exact .inr ⟨ws, .head _, p, hp, rfl⟩
    · rcases List.mem_cons.1 h with h | h
      · exact .inl h
      · rcases ih h with e | ⟨ws', h1, p, h2, e⟩
        · exact .inl e
        · exact .inr ⟨ws', .tail _ h1, p, h2, e⟩
theorem tape_cell {w : World} {m : Nat} {g c : Nat} {L : List ActR} (h : AcR w m (.slice (some ⟨g, 0, none⟩) L.length c) L) (k : Nat) (hk : k < L.length) : w.cell? ⟨g, k * 3, none⟩ = some (.int .i64 (L[k]).kind) ∧ w.cell? ⟨g, k * 3 + 1, none⟩ = some (.int .i64 (L[k]).b) := by
  have h0 := h.row.cells (g := g) rfl (k * 3 + 0) (.int .i64 (L[k]).kind) (by rw [flat3 ActR.cells L k hk 0 (by omega) (fun _ => rfl)]; rfl)
  have h1 := h.row.cells (g := g) rfl (k * 3 + 1) (.int .i64 (L[k]).b) (by rw [flat3 ActR.cells L k hk 1 (by omega) (fun _ => rfl)]; rfl)
  rw [Addr.add_lit] at h0 h1
  simp only [Nat.zero_add, Nat.add_zero] at h0 h1
  exact ⟨h0, h1⟩
theorem log_nil {l : List Int} {nb : Nat} (hl : l.length = 512 * nb) (hn : 98 ≤ nb) (he : logE l nb = 0) (h0 : logN l nb = []) : bck l 1 = zs := by
  have h1 : numsE (bck l 1) nb = 0 := by
    unfold logE at he
    rw [if_neg (by omega)] at he
    by_cases c : numsE (bck l 1) nb = 0
    · exact c
    · rw [if_neg c] at he; exact he
  have hb : (bck l 1).length = 512 := bck_length l 1 nb hl (by omega)
  have hz : zr (bck l 1) 0 512 = true := by
    cases hz : zr (bck l 1) 0 512 with
    | true => rfl
    | false =>
      unfold numsE at h1
      rw [if_pos hb, hz] at h1
      have hH : isH (bck l 1) nb = true := by
        cases hH : isH (bck l 1) nb with
        | true => rfl
        | false => rw [hH] at h1; simp at h1
      unfold logN numsL at h0
      rw [if_pos ⟨hb, hz, hH⟩] at h0
      have e := hH
      simp only [isH, form, Bool.and_eq_true, decide_eq_true_eq] at e
      have h2 : 1 ≤ (nsOf (bck l 1)).length := by simpa [nsOf] using e.1.1.2.1
      rw [h0] at h2
      simp at h2
  have hz' : ∀ i, i < 512 → nth (bck l 1) (0 + i) = 0 := by simpa [zr] using hz
  refine ext_nth (by rw [hb, zs_length]) fun i hi => ?_
  rw [hb] at hi
  have := hz' i hi
  rw [Nat.zero_add] at this
  rw [this, nth_zs]
theorem Fresh.home {a : AD} {nb : Nat} {l : List Int} (h : Fresh a nb l) :
    a.takeE (homeA (logH l nb)) = 0 ∧ (a.take (homeA (logH l nb))).las = behind l nb ∧ (a.take (homeA (logH l nb))).wr = (logN l nb).length + 1 ∧ (a.take (homeA (logH l nb))).fl = 2 ∧ (a.take (homeA (logH l nb))).T = (grp [logH l nb, [(1, zs)]]).map actT := by
  rw [homeA_grp]
  obtain ⟨e1, e2⟩ := take_grp [logH l nb, [(1, zs)]] a h.pen h.down (by rw [h.at_]; exact .inl (Int.le_refl _))
  rw [e1, e2]
  refine ⟨rfl, ?_, ?_, ?_, ?_⟩
  · show fw a.las ([logH l nb, [(1, zs)]].flatten) = _
    rw [flt2, fw_append, h.las]; rfl
  · show a.wr + ([logH l nb, [(1, zs)]].flatten).length = _
    rw [flt2, List.length_append, logH_length, h.wr, Nat.zero_add]; rfl
  · show a.fl + 2 = 2
    rw [h.fl]
  · show a.T ++ _ = _
    rw [h.tape]; rfl
end Go.Proofs.YtdheojhfgeabhaaDoor

namespace Go.Proofs.YtdheojhfgeabhaaDoor
open Go.RowKit Rec

structure PutR where
  b : Int
  x : Int
  fl : Bool
structure PutAt (w : World) (b off : Nat) (q : PutR) : Prop where
  f0 : w.cell? ⟨b, off, none⟩ = some (.int .i64 q.b)
  f1 : w.cell? ⟨b, off + 1, none⟩ = some (.int .u8 q.x)
  f2 : w.cell? ⟨b, off + 2, none⟩ = some (.bool q.fl)
structure Puts (w : World) (a0 : Option Addr) (L : List PutR) : Prop where
  at_ : L = [] ∨ ∃ b off, a0 = some ⟨b, off, none⟩ ∧ ∀ i q, L[i]? = some q → PutAt w b (off + i * 3) q
  each : ∀ q ∈ L, 0 ≤ q.x ∧ q.x < 256
  len : L.length ≤ 9223372036854775807
theorem Puts.on {w w' : World} {a0 : Option Addr} {L : List PutR} (h : Puts w a0 L) (x : Below w.heap.size w w') : Puts w' a0 L := by
  refine ⟨?_, h.each, h.len⟩
  rcases h.at_ with e | ⟨b, off, e, hc⟩
  · exact .inl e
  · have f := below_fr x (fun _ => False)
    exact .inr ⟨b, off, e, fun i q hq => ⟨f.cell (hc i q hq).f0 (fun e => e), f.cell (hc i q hq).f1 (fun e => e), f.cell (hc i q hq).f2 (fun e => e)⟩⟩
theorem Bools.on {w w' : World} {v : Value} {l : List Bool} (h : Bools w v l) (x : Below w.heap.size w w') : Bools w' v l := by
  obtain ⟨a, c, rfl, hl⟩ := h
  refine ⟨a, c, rfl, ?_⟩
  rcases hl with rfl | ⟨b, off, rfl, hc⟩
  · exact .inl rfl
  · exact .inr ⟨b, off, rfl, fun i y hy => (below_fr x (fun _ => False)).cell (hc i y hy) (fun e => e)⟩
/-- behind k writes, nothing armed -/
structure ChI (a : AD) (m : Nat) (L : List PutR) (k : Nat) : Prop where
  nb : a.nb = m
  las : a.las = frs m
  P : a.P = (L.take k).map (fun q => ((q.b % (m : Int)).toNat, one q.x))
  T : a.T.length = k
  wr : a.wr = k
  fl : a.fl = 0
  at_ : a.at_ = 0
  keep : a.keep = []
  down : a.down = false
theorem ChI.next {a : AD} {m k : Nat} {L : List PutR} {q : PutR} (h : ChI a m L k) (hq : L[k]? = some q) : ChI (a.do q.b q.x false) m L (k + 1) ∧ a.stepE = 0 := by
  have h1 : ¬ a.at_ = 1 := by rw [h.at_]; decide
  have h0 : ¬ (0 : Int) < a.at_ := by rw [h.at_]; decide
  have e : a.do q.b q.x false = { a with P := a.P ++ [((q.b % (m : Int)).toNat, one q.x)], T := a.T ++ [(1, (((q.b % (m : Int)).toNat : Nat) : Int), one q.x)], wr := a.wr + 1 } := by
    show AD.write _ _ _ = _
    unfold AD.write
    rw [if_neg h1, h.nb]
    show AD.tick _ = _
    unfold AD.tick
    exact if_neg h0
  refine ⟨?_, by unfold AD.stepE; rw [if_neg h1]⟩
  rw [e]
  refine ⟨h.nb, h.las, ?_, ?_, ?_, h.fl, h.at_, h.keep, h.down⟩
  · show a.P ++ _ = _
    rw [h.P, List.take_add_one, hq, List.map_append]; rfl
  · show (a.T ++ _).length = _
    rw [List.length_append, h.T]; rfl
  · show a.wr + 1 = _
    rw [h.wr]
theorem ChI.room {a : AD} {m k : Nat} {L : List PutR} (h : ChI a m L k) (hk : k ≤ 200) : RoomD a := by
  refine ⟨?_, by rw [h.T]; omega, by rw [h.wr]; omega, by rw [h.fl]; omega, by rw [h.keep]; simp⟩
  rw [h.P, List.length_map, List.length_take]; omega
/-- what is to last -/
def wantL (m : Nat) (L : List PutR) (keep : List Bool) : Nat → List Int
  | 0 => (List.range m).map (fun i : Nat => (i : Int))
  | k + 1 => if kpOf keep k then (wantL m L keep k).set (((L.getD k ⟨0, 0, false⟩).b % (m : Int)).toNat) (L.getD k ⟨0, 0, false⟩).x else wantL m L keep k
theorem wantL_length (m : Nat) (L : List PutR) (keep : List Bool) (k : Nat) : (wantL m L keep k).length = m := by
  induction k with
  | zero => simp [wantL]
  | succ k ih => rw [wantL]; split; rw [List.length_set, ih]; exact ih
theorem blk_wr (l : List Int) (n b j : Nat) (x : List Int) (hl : l.length = 512 * n) (hj : j < n) (hx : x.length = 512) : bck (wr l b x) j = if j = b then x else bck l j := by
  have e1 : (wr l b x).length = 512 * n := by rw [wr_length, hl]
  have e2 := blk_length e1 hj
  by_cases h : j = b
  · rw [if_pos h]
    refine ext_nth (by rw [e2, hx]) fun i hi => ?_
    rw [e2] at hi
    rw [nth_blk e1 hj i hi, nth_wr _ _ _ _ (by rw [hl]; omega), if_pos (by omega), show (512 * j + i) % 512 = i by omega]
  · rw [if_neg h]
    refine ext_nth (by rw [e2, blk_length hl hj]) fun i hi => ?_
    rw [e2] at hi
    rw [nth_blk e1 hj i hi, nth_blk hl hj i hi, nth_wr _ _ _ _ (by rw [hl]; omega), if_neg (by omega)]
theorem chosen_math (m : Nat) (L : List PutR) (keep : List Bool) (hm : 0 < m) (f : Nat → Nat) (X : Nat → List Int) (k : Nat) (hk : ∀ i, i < k → f i = ((L.getD i ⟨0, 0, false⟩).b % (m : Int)).toNat ∧ X i = one (L.getD i ⟨0, 0, false⟩).x) (j : Nat) (hj : j < m) :
    bck (lay (kpOf keep) f X (frs m) k) j = one (nth (wantL m L keep k) j) := by
  induction k with
  | zero =>
    rw [lay, blk_frs m j hj]
    simp [wantL, nth, List.getD, hj]
  | succ k ih =>
    have ih := ih (fun i hi => hk i (by omega))
    obtain ⟨h1, h2⟩ := hk k (by omega)
    rw [lay, wantL]
    by_cases hkp : kpOf keep k = true
    · rw [if_pos hkp, if_pos hkp, blk_wr _ m _ _ _ (by rw [lay_length, frs_length]) hj (by rw [h2, one_length]), h1, h2, nth_set _ _ _ _ (by
        rw [wantL_length]
        have := Int.emod_lt_of_pos (L.getD k ⟨0, 0, false⟩).b (b := (m : Int)) (by omega)
        have := Int.emod_nonneg (L.getD k ⟨0, 0, false⟩).b (b := (m : Int)) (by omega)
        omega)]
      split
      · rfl
      · exact ih
    · rw [if_neg hkp, if_neg hkp]; exact ih
theorem wantL_wf (m : Nat) (L : List PutR) (keep : List Bool) (hm : m ≤ 9) (hL : ∀ q ∈ L, 0 ≤ q.x ∧ q.x < 256) (k : Nat) : ∀ i, 0 ≤ nth (wantL m L keep k) i ∧ nth (wantL m L keep k) i < 256 := by
  induction k with
  | zero =>
    intro i
    by_cases h : i < m
    · have : nth (wantL m L keep 0) i = (i : Int) := by simp [wantL, nth, List.getD, h]
      rw [this]; omega
    · rw [nth_out _ _ (by rw [wantL_length]; omega)]; omega
  | succ k ih =>
    intro i
    rw [wantL]
    split
    · by_cases h2 : (((L.getD k ⟨0, 0, false⟩).b % (m : Int)).toNat) < (wantL m L keep k).length
      · rw [nth_set _ _ _ _ h2]
        split
        · by_cases h3 : k < L.length
          · have e : L.getD k ⟨0, 0, false⟩ = L[k] := by simp [List.getD, h3]
            rw [e]; exact hL _ (List.getElem_mem h3)
          · have e : L.getD k ⟨0, 0, false⟩ = ⟨0, 0, false⟩ := by simp [List.getD, Nat.le_of_not_lt h3]
            rw [e]; exact ⟨Int.le_refl _, by decide⟩
        · exact ih i
      · rw [List.set_eq_of_length_le (by omega)]; exact ih i
    · exact ih i
end Go.Proofs.YtdheojhfgeabhaaDoor

namespace Go.Proofs.YtdheojhfgeabhaaDoor
open Go.RowKit Rec

/-- nothing armed, so many steps -/
structure LaI (a : AD) (m k : Nat) : Prop where
  nb : a.nb = m
  len : a.las.length = 512 * m
  P : a.P.length ≤ k
  T : a.T.length ≤ k
  wr : a.wr ≤ k
  fl : a.fl ≤ k
  at_ : a.at_ = 0
  keep : a.keep = []
  down : a.down = false
theorem LaI.room {a : AD} {m k : Nat} (h : LaI a m k) (hk : k ≤ 200) : RoomD a :=
  ⟨by have := h.P; omega, by have := h.T; omega, by have := h.wr; omega, by have := h.fl; omega, by rw [h.keep]; simp⟩
theorem LaI.step {a : AD} {m k : Nat} (h : LaI a m k) : a.stepE = 0 := by unfold AD.stepE; rw [if_neg (by rw [h.at_]; decide)]
theorem do_w {a : AD} (b x : Int) (h : a.at_ = 0) : a.do b x false = { a with P := a.P ++ [((b % (a.nb : Int)).toNat, one x)], T := a.T ++ [(1, (((b % (a.nb : Int)).toNat : Nat) : Int), one x)], wr := a.wr + 1 } := by
  show AD.write _ _ _ = _
  unfold AD.write
  rw [if_neg (by rw [h]; decide)]
  show AD.tick _ = _
  unfold AD.tick
  exact if_neg (by show ¬ (0 : Int) < a.at_; rw [h]; decide)
theorem do_f {a : AD} (b x : Int) (h : a.at_ = 0) : a.do b x true = { a with fl := a.fl + 1, T := a.T ++ [(2, 0, [])], las := a.full, P := [] } := by
  show AD.flush _ = _
  unfold AD.flush
  rw [if_neg (by rw [h]; decide)]
  have e : AD.tick { a with fl := a.fl + 1 } = { a with fl := a.fl + 1 } := by
    unfold AD.tick
    exact if_neg (by show ¬ (0 : Int) < a.at_; rw [h]; decide)
  simp only [e]
  rfl
theorem full_w {a : AD} (b x : Int) (h : a.at_ = 0) : (a.do b x false).full = wr a.full (b % (a.nb : Int)).toNat (one x) := by
  rw [do_w b x h]
  unfold AD.full
  show lay _ _ _ a.las (a.P ++ [_]).length = _
  rw [List.length_append, List.length_singleton, lay, if_pos rfl]
  have e1 : ∀ k, k < a.P.length → (AD.f { a with P := a.P ++ [((b % (a.nb : Int)).toNat, one x)], T := a.T ++ [(1, (((b % (a.nb : Int)).toNat : Nat) : Int), one x)], wr := a.wr + 1 } k = a.f k) ∧ (AD.X { a with P := a.P ++ [((b % (a.nb : Int)).toNat, one x)], T := a.T ++ [(1, (((b % (a.nb : Int)).toNat : Nat) : Int), one x)], wr := a.wr + 1 } k = a.X k) := fun k hk => by
    simp [AD.f, AD.X, List.getD, List.getElem?_append, hk]
  rw [lay_congr (kp' := fun _ => true) (f' := a.f) (x' := a.X) a.las a.P.length (fun k hk => ⟨rfl, (e1 k hk).1, (e1 k hk).2⟩)]
  congr 1
  · simp [AD.f, List.getD]
  · simp [AD.X, List.getD]
theorem LaI.next_w {a : AD} {m k : Nat} (h : LaI a m k) (b x : Int) : LaI (a.do b x false) m (k + 1) ∧ (a.do b x false).las = a.las ∧ (a.do b x false).full = Rec.wr a.full (b % (m : Int)).toNat (one x) := by
  refine ⟨?_, ?_, ?_⟩
  · rw [do_w b x h.at_]
    exact ⟨h.nb, h.len, by show (a.P ++ _).length ≤ _; have := h.P; simp; omega, by show (a.T ++ _).length ≤ _; have := h.T; simp; omega, by show a.wr + 1 ≤ _; have := h.wr; omega, by show a.fl ≤ _; have := h.fl; omega, h.at_, h.keep, h.down⟩
  · rw [do_w b x h.at_]
  · rw [full_w b x h.at_, h.nb]
theorem LaI.next_f {a : AD} {m k : Nat} (h : LaI a m k) (b x : Int) : LaI (a.do b x true) m (k + 1) ∧ (a.do b x true).las = a.full ∧ (a.do b x true).full = a.full := by
  refine ⟨?_, ?_, ?_⟩
  · rw [do_f b x h.at_]
    exact ⟨h.nb, by show a.full.length = _; unfold AD.full; rw [lay_length]; exact h.len, by show 0 ≤ _; omega, by show (a.T ++ _).length ≤ _; have := h.T; simp; omega, by show a.wr ≤ _; have := h.wr; omega, by show a.fl + 1 ≤ _; have := h.fl; omega, h.at_, h.keep, h.down⟩
  · rw [do_f b x h.at_]
  · rw [do_f b x h.at_]; rfl
theorem lay_none (f : Nat → Nat) (x : Nat → List Int) (l : List Int) (kp : Nat → Bool) (n : Nat) (h : ∀ k, k < n → kp k = false) : lay kp f x l n = l := by
  induction n with
  | zero => rfl
  | succ n ih => rw [lay, if_neg (by rw [h n (by omega)]; decide), ih (fun k hk => h k (by omega))]
theorem cut_all {a : AD} (all : Bool) : (a.cut (kpOf (List.replicate a.P.length all))).las = if all then a.full else a.las := by
  show lay _ a.f a.X a.las a.P.length = _
  cases all with
  | true =>
    rw [if_pos rfl]
    exact lay_congr _ _ (fun k hk => ⟨by simp [kpOf, List.getD, hk], rfl, rfl⟩)
  | false =>
    rw [if_neg (by decide)]
    exact lay_none _ _ _ _ _ (fun k hk => by simp [kpOf, List.getD, hk])
theorem bools_of {w : World} {v : Value} {l : List Bool} (h : w.ownsRow 0 4 1 v l.length (l.map Value.bool)) : Bools w v l := by
  obtain ⟨a, c, rfl, _, hg, hc⟩ := owns_slice h
  refine ⟨a, c, rfl, ?_⟩
  rcases hg with h0 | ⟨g, rfl⟩
  · exact .inl (List.eq_nil_of_length_eq_zero h0)
  · refine .inr ⟨g, 0, rfl, fun i x hx => ?_⟩
    rw [Nat.zero_add]
    exact (hc g 0 rfl).2.1 i _ (by rw [List.getElem?_map, hx]; rfl)
end Go.Proofs.YtdheojhfgeabhaaDoor

namespace Go.Proofs.YtdheojhfgeabhaaDoor
open Go.RowKit Rec

theorem infoBo : (Tryd.prog.info? 4).map (fun i => (i.zero, i.size, i.bytes)) = some (some (.bool false), 1, 1) := by kernel_rfl
theorem Bools.news {w : World} {p : Addr} {n c : Nat} {l : List Bool} (h : Bools w (.slice (some p) n c) l) : ∀ j u, (l.map Value.bool)[j]? = some u → w.cell? (p.add j) = some u := by
  intro j u hj
  obtain ⟨a, c', hv, hb⟩ := h
  cases hv
  rw [List.getElem?_map] at hj
  cases hl : l[j]? with
  | none => rw [hl] at hj; cases hj
  | some x =>
    rw [hl] at hj
    cases hj
    rcases hb with rfl | ⟨b, off, e, hc⟩
    · simp at hl
    · cases e
      rw [Addr.add_lit]; exact hc j x hl
/-- a power cut armed -/
def Dk.arm (D : Dk) (t : Int) (v : Value) (keep : List Bool) : Dk := { D with at_ := t, kv := v, keep := keep }
def AD.arm (a : AD) (t : Int) (keep : List Bool) : AD := { a with at_ := t, keep := keep }
theorem arm_all {n : Nat} {D : Dk} {t : Int} {v : Value} {keep : List Bool} (h : ∀ k, v.ownBlock = some k → n ≤ k) : Al n D (D.arm t v keep) := by
  rintro k (hk | hk | hk | hk)
  · exact .inl (.inl hk)
  · exact .inr (h k hk)
  · exact .inl (.inr (.inr (.inl hk)))
  · exact .inl (.inr (.inr (.inr hk)))
theorem Disk.armed {w wb w1 w2 : World} {D : Dk} {t : Int} {v : Value} {keep : List Bool} (h : Disk w D) (hb : Below w.heap.size w wb) (hk : Bools wb v keep) (hv : ∀ k, v.ownBlock = some k → w.heap.size ≤ k ∧ k < wb.heap.size) (ht : t ≤ 9223372036854775807)
    (e1 : w1 = wb.setCell ⟨D.d, 6, none⟩ (.int .i64 t)) (e2 : w2 = w1.setCell ⟨D.d, 7, none⟩ v) : Disk w2 (D.arm t v keep) ∧ Mv w D w2 (D.arm t v keep) := by
  have f1 : Fr (fun i => i = D.d) wb w1 := e1 ▸ Fr.set
  have f2 : Fr (fun i => i = D.d) w1 w2 := e2 ▸ Fr.set
  have f : Fr (fun i => i = D.d) wb w2 := f1.trans f2 (fun _ e => .inl e)
  have hw := h.on hb
  have hfr : Fr D.has wb w2 := f.mono (fun _ e => .inl e)
  have hm : Mv w D w2 (D.arm t v keep) := ⟨(below_fr hb D.has).trans hfr (fun _ h => .inl h), fun _ h => .inl h, rfl, rfl⟩
  refine ⟨?_, hm⟩
  exact {
    row := by
      have r1 := heap_setCell_same _ _ 6 _ _ (.int .i64 t) hw.row
      rw [← e1] at r1
      have r2 := heap_setCell_same _ _ 7 _ _ v r1
      rw [← e2] at r2
      exact r2
    las := hw.las.fr f (fun e => h.ap.dL e.symm)
    lasl := h.lasl
    nb0 := h.nb0
    nb1 := h.nb1
    nws := owns_fr hw.nws f (fun k hk e => by cases hk; exact h.ap.dn e.symm)
    pen := owns_fr hw.pen f (fun k hk => (h.ap.p k hk).1)
    penb := fun p hp => ⟨(h.penb p hp).1, (h.penb p hp).2.1, (hw.penb p hp).2.2.1.fr hfr (h.penb p hp).2.2.2, (h.penb p hp).2.2.2⟩
    tap := owns_fr hw.tap f (fun k hk => (h.ap.t k hk).1)
    tapb := fun a ha => by
      rcases hw.tapb a ha with ⟨h1, h2, h3, h4, g, cap, h5, h6, h7⟩ | h'
      · exact .inl ⟨h1, h2, h3, h4, g, cap, h5, h6.fr hfr h7, h7⟩
      · exact .inr h'
    kee := hk.fr f (fun _ k hk e => absurd (hv k hk).1 (by have := h.lt; have e : k = D.d := e; omega))
    keb := fun k hk e => absurd (h.hasLt e) (Nat.not_lt.2 (hv k hk).1)
    kel := fun k hk => Nat.lt_of_lt_of_le (hv k hk).2 hfr.size
    ap := ⟨h.ap.dL, h.ap.dn, h.ap.Ln, h.ap.p, h.ap.t⟩
    dn := h.dn
    pl := h.pl
    tl := h.tl
    wrs := h.wrs
    fls := h.fls
    at1 := ht }
end Go.Proofs.YtdheojhfgeabhaaDoor

namespace Go.Proofs.YtdheojhfgeabhaaDoor
open Go.RowKit Rec

def fallsB (n : Nat) (t : Int) : Bool := decide (0 < n) && decide (1 ≤ t) && decide (t ≤ 2 * (n : Int) + 6)
def backB (n : Nat) (t : Int) (keep : List Bool) : Bool := fallsB n t && (decide (t < (n : Int) + 2) || (decide (t < (n : Int) + 4) && !(kpOf keep 0)))
def wantA (n : Nat) (t : Int) (keep : List Bool) (l m : List Int) : List Int := if backB n t keep then l else m
theorem Rest.well {a : AD} {nb : Nat} {l : List Int} (h : Rest a nb l) (hn : 98 ≤ nb) : Well nb l l := ⟨h.len, (log_empty hn h.log).2.2, by rw [h.behind hn]; exact fun _ _ _ => rfl⟩
theorem arm_rest {a : AD} {t : Int} {keep : List Bool} : (a.arm t keep).las = a.las ∧ (a.arm t keep).P = a.P ∧ (a.arm t keep).down = a.down ∧ (a.arm t keep).nb = a.nb ∧ (a.arm t keep).at_ = t ∧ (a.arm t keep).keep = keep ∧ (a.arm t keep).wr = a.wr ∧ (a.arm t keep).fl = a.fl ∧ (a.arm t keep).T = a.T := ⟨rfl, rfl, rfl, rfl, rfl, rfl, rfl, rfl, rfl⟩
/-- a disk over what lasts -/
structure Lst (nb : Nat) (w0 w : World) (X : Dk) (W : List Int) : Prop where
  mine : Mine w0 w X
  well : Well nb W X.las
theorem Lst.on {nb : Nat} {w0 w w' : World} {X : Dk} {W : List Int} (h : Lst nb w0 w X W) (hb : Below w.heap.size w w') : Lst nb w0 w' X W := ⟨h.mine.on hb, h.well⟩
theorem well_openE {nb : Nat} {W l : List Int} {D : Dk} (h : Well nb W l) (hD : D.full = l) (hd : D.down = false) (hn : D.nb = nb) : openE D = 0 := by
  unfold openE
  rw [hd, hD, hn]
  exact h.ok
/-- the recovery that ends -/
structure Ended (nb : Nat) (w0 w : World) (E : Dk) (W : List Int) : Prop where
  mine : Mine w0 w E
  rest : Rest E.abs nb E.las
  like : Like nb E.las W
theorem Ended.on {nb : Nat} {w0 w w' : World} {E : Dk} {W : List Int} (h : Ended nb w0 w E W) (hb : Below w.heap.size w w') : Ended nb w0 w' E W := ⟨h.mine.on hb, h.rest, h.like⟩
end Go.Proofs.YtdheojhfgeabhaaDoor

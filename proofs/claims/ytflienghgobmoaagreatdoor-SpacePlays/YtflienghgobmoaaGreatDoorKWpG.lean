import Derived.Test.YtflienghgobmoaaGreatDoorKXmB
namespace Go.Proofs.YtflienghgobmoaaGreatDoor
open Go.RowKit Rec
/-- an act's bytes: there from the first, or in a row of their own -/
def AcD (w0 wr : World) (q : ActR) : Prop := Bytes w0 q.a q.x ∨ ∃ g, q.a = some ⟨g, 0, none⟩ ∧ w0.heap.size ≤ g ∧ OwnB wr g q.c q.x
theorem AcD.bytes {w0 wr : World} {q : ActR} (h : AcD w0 wr q) (hb : Below w0.heap.size w0 wr) : Bytes wr q.a q.x := by
  rcases h with h | ⟨g, e, _, ho⟩
  · exact h.on hb
  · rw [e]; exact ho.bytes
theorem AcD.on {w0 wr w' : World} {q : ActR} (h : AcD w0 wr q) (hb : Below wr.heap.size wr w') : AcD w0 w' q := h.imp id (fun ⟨g, e, hg, ho⟩ => ⟨g, e, hg, ho.on hb⟩)
theorem AcD.fr {w0 wr w' : World} {q : ActR} {v : Value} {n : Nat} {xs : List Value} (h : AcD w0 wr q) (hr : wr.ownsRow 0 177 3 v n xs) (x : Fr (fun k => v.ownBlock = some k) wr w') : AcD w0 w' q :=
  h.imp id (fun ⟨g, e, hg, ho⟩ => ⟨g, e, hg, ho.fr x (own_apart7 hr ho (by decide))⟩)
/-- acts in a row of one's own -/
structure AcL (w0 w wr : World) (v : Value) (A : List ActR) : Prop where
  row : wr.ownsRow 0 177 3 v A.length (A.flatMap ActR.cells)
  each : ∀ q ∈ A, AcD w0 wr q
  far : ∀ k, v.ownBlock = some k → w.heap.size ≤ k
  bel : Below w.heap.size w wr
theorem AcL.zero {w0 w wr : World} (hb : Below w.heap.size w wr) : AcL w0 w wr (.slice none 0 0) [] := ⟨⟨rfl, .inl ⟨rfl, rfl⟩⟩, (fun q h => by cases h), (fun k h => by cases h), hb⟩
theorem AcL.on {w0 w wr w' : World} {v : Value} {A : List ActR} (h : AcL w0 w wr v A) (hb : Below wr.heap.size wr w') : AcL w0 w w' v A := ⟨owns_on h.row hb, fun q hq => (h.each q hq).on hb, h.far, h.bel.trans (hb.mono h.bel.size)⟩
theorem AcL.add {w0 w wr wa w' : World} {v : Value} {A M : List ActR} {g cap k m : Nat} (h : AcL w0 w wr v A) (hk : A.length = k) (hm : M.length = m) (ha : Below wr.heap.size wr wa) (hM : ∀ q ∈ M, AcD w0 wa q) (h1 : w'.ownsRow 0 177 3 (.slice (some ⟨g, 0, none⟩) (k + m) cap) (k + m) (A.flatMap ActR.cells ++ M.flatMap ActR.cells)) (h2 : Fr (fun k => v.ownBlock = some k) wa w') (h3 : v.ownBlock = some g ∨ wa.heap.size ≤ g) : AcL w0 w w' (.slice (some ⟨g, 0, none⟩) (k + m) cap) (A ++ M) := by
  subst hk hm
  have h' := h.on ha
  refine ⟨by rw [List.length_append, List.flatMap_append]; exact h1, fun q hq => ?_, fun b e => ?_, h'.bel.trans (h2.below _ h.far h'.bel.size)⟩
  · rcases List.mem_append.1 hq with hq | hq
    · exact (h'.each q hq).fr h'.row h2
    · exact (hM q hq).fr h'.row h2
  · cases e
    rcases h3 with h3 | h3
    · exact h.far _ h3
    · exact Nat.le_trans h'.bel.size h3
def wQ (i : Int) (q : BG) : ActR := ⟨1, i, q.a, q.c, q.x⟩
def fQ : ActR := ⟨2, 0, none, 0, []⟩
def homL (L : List BG) : List ActR := L.map (fun q => wQ q.n q)
def tailQ (g cap : Nat) (x : List Int) : List ActR := [fQ, ⟨1, 1, some ⟨g, 0, none⟩, cap, x⟩, fQ]
theorem fQ_d (w0 wr : World) : AcD w0 wr fQ := .inl ⟨by simp [fQ], (fun i => by simp [fQ, nth]), .inl rfl⟩
/-- numbers and bytes in memory, the bytes there from the first -/
structure NdA (w0 w : World) (sa da : Option Addr) (L : List BG) : Prop where
  ints : Ints w sa (nsG L)
  dat : L = [] ∨ ∃ b off, da = some ⟨b, off, none⟩ ∧ ∀ i q, L[i]? = some q → w.cell? ⟨b, off + i, none⟩ = some q.v
  each : ∀ q ∈ L, Bytes w0 q.a q.x
  bel : Below w0.heap.size w0 w
theorem NdA.on {w0 w w' : World} {sa da : Option Addr} {L : List BG} (h : NdA w0 w sa da L) (hb : Below w.heap.size w w') : NdA w0 w' sa da L := by
  refine ⟨h.ints.on hb, ?_, h.each, h.bel.trans (hb.mono h.bel.size)⟩
  rcases h.dat with e | ⟨b, off, e, hc⟩
  · exact .inl e
  · exact .inr ⟨b, off, e, fun i q hq => (below_fr hb (fun _ => False)).cell (hc i q hq) (fun e => e)⟩
theorem NdA.cell {w0 w : World} {sa da : Option Addr} {L : List BG} (h : NdA w0 w sa da L) {j : Nat} {q : BG} (hq : L[j]? = some q) : (∃ b off, sa = some ⟨b, off, none⟩ ∧ w.cell? ⟨b, off + j, none⟩ = some (.int .i64 q.n)) ∧ ∃ b off, da = some ⟨b, off, none⟩ ∧ w.cell? ⟨b, off + j, none⟩ = some (.slice q.a q.x.length q.c) := by
  have hjl := (List.getElem?_eq_some_iff.1 hq).1
  constructor
  · obtain ⟨b, off, e, hc⟩ := h.ints.at_.resolve_left (by intro e; have := nsG_len L; rw [e] at this; simp at this; omega)
    refine ⟨b, off, e, ?_⟩
    rw [hc j (by rw [nsG_len]; exact hjl), nth_nsG hq]
  · obtain ⟨b, off, e, hc⟩ := h.dat.resolve_left (by intro e; rw [e] at hjl; simp at hjl)
    exact ⟨b, off, e, hc j q hq⟩
theorem homL_take {L : List BG} {j : Nat} {q : BG} (h : L[j]? = some q) : homL (L.take (j + 1)) = homL (L.take j) ++ [wQ q.n q] := by unfold homL; rw [take_bg h, List.map_append]; rfl
theorem homL_len (L : List BG) : (homL L).length = L.length := by simp [homL]
end Go.Proofs.YtflienghgobmoaaGreatDoor

namespace Go.Proofs.YtflienghgobmoaaGreatDoor
open Go.RowKit Rec
def bg0 : BG := ⟨0, none, 0, []⟩
def logL (L : List BG) (j : Nat) : List ActR := (List.range j).map (fun i : Nat => wQ (2 + (i : Int)) (L.getD i bg0))
theorem logL_succ {L : List BG} {j : Nat} {q : BG} (h : L[j]? = some q) : logL L (j + 1) = logL L j ++ [wQ (2 + (j : Int)) q] := by
  unfold logL; rw [List.range_succ, List.map_append]; simp [List.getD, h]
theorem logL_len (L : List BG) (j : Nat) : (logL L j).length = j := by simp [logL]
theorem waQ_w (i : Int) (q : BG) : waQ (wQ i q) = some (i.toNat, q.x) := by unfold waQ wQ; rfl
theorem waQ_tail (g cap : Nat) (x : List Int) : (tailQ g cap x).map waQ = [none, some (1, x), none] := rfl
theorem waQ_log (L : List BG) : (logL L L.length).map waQ = (logW (dsG L)).map some := by
  unfold logL logW
  rw [dsG_len, List.map_map, List.map_map]
  apply List.map_congr_left
  intro i hi
  have hi' := List.mem_range.1 hi
  have hq : L[i]? = some L[i] := List.getElem?_eq_getElem hi'
  simp only [Function.comp]
  rw [waQ_w, List.getD, hq, row_dsG hq]
  show some ((2 + (i : Int)).toNat, L[i].x) = some (2 + i, L[i].x)
  rw [show (2 + (i : Int)).toNat = 2 + i by omega]
theorem waQ_hom (L : List BG) : (homL L).map waQ = (homes (nsG L) (dsG L)).map some := by
  induction L with
  | nil => rfl
  | cons q L ih =>
    show waQ (wQ q.n q) :: (homL L).map waQ = some (q.n.toNat, q.x) :: (homes (nsG L) (dsG L)).map some
    rw [ih, waQ_w]
theorem waQ_home (L : List BG) (g cap : Nat) : (homL L ++ tailQ g cap zs).map waQ = homeA (homes (nsG L) (dsG L)) := by
  rw [List.map_append, waQ_hom, waQ_tail]; rfl
theorem waQ_com (L : List BG) (g cap g' cap' : Nat) : ((logL L L.length ++ tailQ g cap (made (nsG L) (dsG L))) ++ (homL L ++ tailQ g' cap' zs)).map waQ = commitA (nsG L) (dsG L) := by
  rw [List.map_append, List.map_append, waQ_log, waQ_tail, waQ_home]
  unfold commitA
  simp
theorem actsG {w0 w wr : World} {a : Option Addr} {n c : Nat} {A : List ActR} (h : AcL w0 w wr (.slice a n c) A) (hb : Below w0.heap.size w0 w) (hl : A.length ≤ 1000000) : Acts wr a A := by
  have hbr : Below w0.heap.size w0 wr := hb.trans (h.bel.mono hb.size)
  obtain ⟨a', c', e, _, hp, hc⟩ := owns_slice h.row
  cases e
  refine ⟨?_, fun q hq => (h.each q hq).bytes hbr, by omega⟩
  rcases hp with e | ⟨g, rfl⟩
  · exact .inl (List.eq_nil_of_length_eq_zero e)
  · refine .inr ⟨g, 0, rfl, fun i q hq => ?_⟩
    obtain ⟨h1, h2, h3⟩ := cells_at A i q hq
    have e := (hc g 0 rfl).2.1
    rw [Nat.zero_add]
    exact ⟨e _ _ h1, e _ _ h2, e _ _ h3⟩
/-- the row that an answer in acts is -/
theorem AcL.news {w0 w wr : World} {v : Value} {A : List ActR} {n : Nat} (h : AcL w0 w wr v A) (hn : A.length = n) (h0 : 0 < n) : ∃ g c, v = .slice (some ⟨g, 0, none⟩) n c ∧ (∀ j u, (A.flatMap ActR.cells)[j]? = some u → wr.cell? ((⟨g, 0, none⟩ : Addr).add j) = some u) := by
  subst hn
  obtain ⟨a', c', e, _, hp, hc⟩ := owns_slice h.row
  obtain ⟨g, rfl⟩ := hp.resolve_left (by omega)
  refine ⟨g, c', e, fun j u hj => ?_⟩
  rw [Addr.add_lit, Nat.zero_add]
  exact (hc g 0 rfl).2.1 j u hj
theorem AcL.from {w0 w w2 wr : World} {v : Value} {A : List ActR} (h : AcL w0 w2 wr v A) (hb : Below w.heap.size w w2) : AcL w0 w wr v A := ⟨h.row, h.each, fun k e => Nat.le_trans hb.size (h.far k e), hb.trans (h.bel.mono hb.size)⟩
theorem homes_mem {ns : List Int} {ds : List (List Int)} {nb : Nat} (ok : ComOk nb ns ds) : ∀ i, i < ns.length → 98 ≤ nth ns i ∧ nth ns i < nb := by
  intro i hi
  have hm := of_decide_eq_true ok.ris
  have hlow : ∀ k, k ≤ i → 97 ≤ pre ns k := fun k => by
    induction k with
    | zero => intro _; show (97 : Int) ≤ 97; omega
    | succ k ih => intro hk; rw [pre_succ]; have := ih (by omega); have := (hm k (by omega)).1; omega
  have h1 := hlow i (Nat.le_refl _)
  have h2 := hm i hi
  omega
theorem com_ok {L : List BG} {nb g cap g' cap' : Nat} (ok : ComOk nb (nsG L) (dsG L)) : ∀ q ∈ (logL L L.length ++ tailQ g cap (made (nsG L) (dsG L))) ++ (homL L ++ tailQ g' cap' zs), AqOk nb q := by
  have h98 := ok.n98
  have hhi := ok.hi
  rw [nsG_len] at hhi
  have hbl : ∀ q ∈ L, q.x.length = 512 := fun q hq => ok.bl q.x (List.mem_map.2 ⟨q, hq, rfl⟩)
  have ht : ∀ g cap x, x.length = 512 → ∀ q ∈ tailQ g cap x, AqOk nb q := fun g cap x hx q hq => by
    simp only [tailQ, List.mem_cons, List.not_mem_nil, or_false] at hq
    rcases hq with rfl | rfl | rfl
    · exact .inr rfl
    · exact .inl ⟨rfl, by show (0 : Int) ≤ 1; omega, by show (1 : Int) < nb; omega, hx⟩
    · exact .inr rfl
  intro q hq
  rcases List.mem_append.1 hq with hq | hq
  · rcases List.mem_append.1 hq with hq | hq
    · unfold logL at hq
      obtain ⟨i, hi, rfl⟩ := List.mem_map.1 hq
      have hi' := List.mem_range.1 hi
      refine .inl ⟨rfl, by show (0 : Int) ≤ 2 + i; omega, by show (2 : Int) + i < nb; omega, ?_⟩
      show (L.getD i bg0).x.length = 512
      rw [List.getD, List.getElem?_eq_getElem hi']
      exact hbl _ (List.getElem_mem hi')
    · exact ht _ _ _ (made_length _ _) q hq
  · rcases List.mem_append.1 hq with hq | hq
    · unfold homL at hq
      obtain ⟨p, hp, rfl⟩ := List.mem_map.1 hq
      obtain ⟨i, hi, e⟩ := List.getElem_of_mem hp
      have hm := homes_mem ok i (by rw [nsG_len]; exact hi)
      rw [nth_nsG (List.getElem?_eq_getElem hi), e] at hm
      exact .inl ⟨rfl, by show 0 ≤ p.n; omega, by show p.n < nb; omega, hbl p hp⟩
    · exact ht _ _ _ zs_length q hq
end Go.Proofs.YtflienghgobmoaaGreatDoor

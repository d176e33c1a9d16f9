import Derived.Test.YtflienghgobmoaaGreatDoorKPyM
import Derived.Test.YtflienghgobmoaaGreatDoorKWAp
import Derived.Test.YtflienghgobmoaaGreatDoorKXsA
import Derived.Test.YtflienghgobmoaaGreatDoorKXsC
namespace Go.Proofs.YtflienghgobmoaaGreatDoor
open Go.RowKit Rec
/-- a block that is handed in, its bytes anywhere, of any number -/
structure BG where
  n : Int
  a : Option Addr
  c : Nat
  x : List Int
def BG.v (q : BG) : Value := .slice q.a q.x.length q.c
def nsG (L : List BG) : List Int := L.map BG.n
def dsG (L : List BG) : List (List Int) := L.map BG.x
structure BGs (w : World) (a0 : Option Addr) (L : List BG) : Prop where
  at_ : L = [] ∨ ∃ b off, a0 = some ⟨b, off, none⟩ ∧ ∀ i q, L[i]? = some q → w.cell? ⟨b, off + i * 2, none⟩ = some (.int .i64 q.n) ∧ w.cell? ⟨b, off + i * 2 + 1, none⟩ = some q.v
  each : ∀ q ∈ L, Bytes w q.a q.x ∧ (q.a = none → q.c = 0)
theorem bytes_frE {S : Nat → Prop} {w w' : World} {a : Option Addr} {l : List Int} (h : Bytes w a l) (x : Fr S w w') (hk : l ≠ [] → ∀ p, a = some p → ¬ S p.block) : Bytes w' a l := by
  refine ⟨h.len, h.wf, ?_⟩
  rcases h.at_ with e | ⟨b, off, e, hc⟩
  · exact .inl e
  · exact .inr ⟨b, off, e, fun i hi => x.cell (hc i hi) (show ¬ S b from hk (fun e2 => by rw [e2] at hi; simp at hi) ⟨b, off, none⟩ e)⟩
theorem BGs.on {w w' : World} {a0 : Option Addr} {L : List BG} (h : BGs w a0 L) (hb : Below w.heap.size w w') : BGs w' a0 L := by
  refine ⟨?_, fun q hq => ⟨(h.each q hq).1.on hb, (h.each q hq).2⟩⟩
  rcases h.at_ with e | ⟨b, off, e, hc⟩
  · exact .inl e
  · exact .inr ⟨b, off, e, fun i q hq => ⟨(below_fr hb (fun _ => False)).cell (hc i q hq).1 (fun e => e), (below_fr hb (fun _ => False)).cell (hc i q hq).2 (fun e => e)⟩⟩
theorem nsG_len (L : List BG) : (nsG L).length = L.length := by simp [nsG]
theorem dsG_len (L : List BG) : (dsG L).length = L.length := by simp [dsG]
theorem nth_nsG {L : List BG} {i : Nat} {q : BG} (h : L[i]? = some q) : nth (nsG L) i = q.n := by
  unfold nth nsG; rw [List.getD, List.getElem?_map, h]; rfl
theorem row_dsG {L : List BG} {i : Nat} {q : BG} (h : L[i]? = some q) : row (dsG L) i = q.x := by
  unfold row dsG; rw [List.getD, List.getElem?_map, h]; rfl
/-- numbers and bytes apart, in rows of one's own -/
structure SpG (w0 wr : World) (L : List BG) (j : Nat) (s2 s3 : Value) : Prop where
  nums : wr.ownsRow 0 3 1 s2 j ((nsG (L.take j)).map (Value.int .i64))
  rows : wr.ownsRow 0 22 1 s3 j ((L.take j).map BG.v)
  far2 : ∀ k, s2.ownBlock = some k → w0.heap.size ≤ k
  far3 : ∀ k, s3.ownBlock = some k → w0.heap.size ≤ k
  bel : Below w0.heap.size w0 wr
theorem SpG.on {w0 wr w' : World} {L : List BG} {j : Nat} {s2 s3 : Value} (h : SpG w0 wr L j s2 s3) (hb : Below wr.heap.size wr w') : SpG w0 w' L j s2 s3 :=
  ⟨owns_on h.nums hb, owns_on h.rows hb, h.far2, h.far3, h.bel.trans (hb.mono h.bel.size)⟩
theorem SpG.start {w0 wr : World} {L : List BG} (hb : Below w0.heap.size w0 wr) : SpG w0 wr L 0 (.slice none 0 0) (.slice none 0 0) :=
  ⟨⟨rfl, .inl ⟨rfl, rfl⟩⟩, ⟨rfl, .inl ⟨rfl, rfl⟩⟩, (fun k h => by cases h), (fun k h => by cases h), hb⟩
structure SpM (w0 wr : World) (L : List BG) (j : Nat) (s2 s3 : Value) : Prop where
  nums : wr.ownsRow 0 3 1 s2 (j + 1) ((nsG (L.take (j + 1))).map (Value.int .i64))
  rows : wr.ownsRow 0 22 1 s3 j ((L.take j).map BG.v)
  far2 : ∀ k, s2.ownBlock = some k → w0.heap.size ≤ k
  far3 : ∀ k, s3.ownBlock = some k → w0.heap.size ≤ k
  bel : Below w0.heap.size w0 wr
theorem SpM.on {w0 wr w' : World} {L : List BG} {j : Nat} {s2 s3 : Value} (h : SpM w0 wr L j s2 s3) (hb : Below wr.heap.size wr w') : SpM w0 w' L j s2 s3 :=
  ⟨owns_on h.nums hb, owns_on h.rows hb, h.far2, h.far3, h.bel.trans (hb.mono h.bel.size)⟩
theorem take_bg {L : List BG} {j : Nat} {q : BG} (hq : L[j]? = some q) : L.take (j + 1) = L.take j ++ [q] := by rw [List.take_add_one, hq]; rfl
theorem SpG.mid {w0 wr wa w' : World} {L : List BG} {j g cap : Nat} {s2 s3 : Value} {q : BG} (h : SpG w0 wr L j s2 s3) (hq : L[j]? = some q) (ha : Below wr.heap.size wr wa) (ho : w'.ownsRow 0 3 1 (.slice (some ⟨g, 0, none⟩) (j + 1) cap) (j + 1) ((nsG (L.take j)).map (Value.int .i64) ++ [.int .i64 q.n])) (hf : Fr (fun k => s2.ownBlock = some k) wa w') (hg : s2.ownBlock = some g ∨ wa.heap.size ≤ g) :
    SpM w0 w' L j (.slice (some ⟨g, 0, none⟩) (j + 1) cap) s3 := by
  have h' := h.on ha
  refine ⟨?_, owns_fr h'.rows hf (fun k hk => own_apart h'.rows h'.nums (by decide) k hk), fun k hk => ?_, h.far3, h'.bel.trans (hf.below _ h.far2 h'.bel.size)⟩
  · rw [take_bg hq]; unfold nsG at ho ⊢; simpa using ho
  · cases hk
    rcases hg with e | e
    · exact h.far2 _ e
    · exact Nat.le_trans h'.bel.size e
theorem SpM.next {w0 wr wa w' : World} {L : List BG} {j g cap : Nat} {s2 s3 : Value} {q : BG} (h : SpM w0 wr L j s2 s3) (hq : L[j]? = some q) (ha : Below wr.heap.size wr wa) (ho : w'.ownsRow 0 22 1 (.slice (some ⟨g, 0, none⟩) (j + 1) cap) (j + 1) ((L.take j).map BG.v ++ [.slice q.a q.x.length q.c])) (hf : Fr (fun k => s3.ownBlock = some k) wa w') (hg : s3.ownBlock = some g ∨ wa.heap.size ≤ g) :
    SpG w0 w' L (j + 1) s2 (.slice (some ⟨g, 0, none⟩) (j + 1) cap) := by
  have h' := h.on ha
  refine ⟨owns_fr h'.nums hf (fun k hk => own_apart h'.nums h'.rows (by decide) k hk), ?_, h.far2, fun k hk => ?_, h'.bel.trans (hf.below _ h.far3 h'.bel.size)⟩
  · rw [take_bg hq, List.map_append]; exact ho
  · cases hk
    rcases hg with e | e
    · exact h.far3 _ e
    · exact Nat.le_trans h'.bel.size e
/-- as the lists that the header's calls want -/
theorem SpG.lists {w0 wr : World} {L : List BG} {n : Nat} {s2 s3 : Value} {a0 : Option Addr} (h : SpG w0 wr L n s2 s3) (hL : BGs w0 a0 L) (hn : L.length = n) (hl : n ≤ 1000000000000000) : ∃ a nc da dc, s2 = .slice a n nc ∧ s3 = .slice da n dc ∧ n ≤ nc ∧ n ≤ dc ∧ (n = 0 ∨ (∃ g, a = some ⟨g, 0, none⟩) ∧ ∃ g, da = some ⟨g, 0, none⟩) ∧ Ints wr a (nsG L) ∧ Data wr da (dsG L) := by
  have ht : L.take n = L := by rw [← hn]; exact List.take_length
  have h1 := h.nums
  have h2 := h.rows
  rw [ht] at h1 h2
  obtain ⟨a, nc, e1, k1, g1, q1⟩ := owns_slice h1
  obtain ⟨da, dc, e2, k2, g2, q2⟩ := owns_slice h2
  refine ⟨a, nc, da, dc, e1, e2, k1, k2, ?_, ⟨by rw [nsG_len]; omega, ?_⟩, ⟨by rw [dsG_len]; omega, ?_⟩⟩
  · rcases g1 with g1 | g1
    · exact .inl g1
    · rcases g2 with g2 | g2
      · exact .inl g2
      · exact .inr ⟨g1, g2⟩
  · rcases g1 with g1 | ⟨g, g1⟩
    · exact .inl (List.eq_nil_of_length_eq_zero (by rw [nsG_len]; omega))
    · refine .inr ⟨g, 0, g1, fun i hi => ?_⟩
      rw [nsG_len] at hi
      obtain ⟨q, hq⟩ : ∃ q, L[i]? = some q := ⟨_, List.getElem?_eq_getElem hi⟩
      rw [Nat.zero_add, nth_nsG hq]
      exact (q1 g 0 g1).2.1 i _ (by rw [List.getElem?_map]; unfold nsG; rw [List.getElem?_map, hq]; rfl)
  · rcases g2 with g2 | ⟨g, g2⟩
    · exact .inl (List.eq_nil_of_length_eq_zero (by rw [dsG_len]; omega))
    · refine .inr ⟨g, 0, g2, fun i hi => ?_⟩
      rw [dsG_len] at hi
      obtain ⟨q, hq⟩ : ∃ q, L[i]? = some q := ⟨_, List.getElem?_eq_getElem hi⟩
      have hm := hL.each q (List.mem_of_getElem? hq)
      rw [Nat.zero_add, row_dsG hq]
      exact ⟨q.a, q.c, (q2 g 0 g2).2.1 i _ (by rw [List.getElem?_map, hq]; rfl), hm.1.on h.bel, hm.2⟩
end Go.Proofs.YtflienghgobmoaaGreatDoor

namespace Go.Proofs.YtflienghgobmoaaGreatDoor
open Go.RowKit Rec
theorem infoNi : (Tryz.prog.info? 3).map (fun i => (i.zero, i.size, i.bytes)) = some (some (.int .i64 0), 1, 8) := by kernel_rfl
theorem pre_succ (ns : List Int) (i : Nat) : pre ns (i + 1) = nth ns i := by unfold pre; rw [if_neg (by omega)]; rfl
end Go.Proofs.YtflienghgobmoaaGreatDoor

namespace Go.Proofs.YtflienghgobmoaaGreatDoor
open Go.RowKit Rec
/-- a list of one's own that grows -/
structure OwL (e sz : Nat) (w0 wr : World) (v : Value) (n : Nat) (xs : List Value) : Prop where
  row : wr.ownsRow 0 e sz v n xs
  far : ∀ k, v.ownBlock = some k → w0.heap.size ≤ k
  bel : Below w0.heap.size w0 wr
theorem OwL.zero {e sz : Nat} {w0 wr : World} (hb : Below w0.heap.size w0 wr) : OwL e sz w0 wr (.slice none 0 0) 0 [] := ⟨⟨by simp, .inl ⟨rfl, rfl⟩⟩, (fun k h => by cases h), hb⟩
theorem OwL.on {e sz : Nat} {w0 wr w' : World} {v : Value} {n : Nat} {xs : List Value} (h : OwL e sz w0 wr v n xs) (hb : Below wr.heap.size wr w') : OwL e sz w0 w' v n xs := ⟨owns_on h.row hb, h.far, h.bel.trans (hb.mono h.bel.size)⟩
theorem OwL.add {e sz : Nat} {w0 wr wa w' : World} {v : Value} {n m g cap : Nat} {xs ys : List Value} (h : OwL e sz w0 wr v n xs) (ha : Below wr.heap.size wr wa) (h1 : w'.ownsRow 0 e sz (.slice (some ⟨g, 0, none⟩) (n + m) cap) (n + m) (xs ++ ys)) (h2 : Fr (fun k => v.ownBlock = some k) wa w') (h3 : v.ownBlock = some g ∨ wa.heap.size ≤ g) :
    OwL e sz w0 w' (.slice (some ⟨g, 0, none⟩) (n + m) cap) (n + m) (xs ++ ys) := by
  have h' := h.on ha
  refine ⟨h1, fun k hk => ?_, h'.bel.trans (h2.below _ h.far h'.bel.size)⟩
  cases hk
  rcases h3 with e' | e'
  · exact h.far _ e'
  · exact Nat.le_trans h'.bel.size e'
/-- the blocks that are put, among the first n -/
def wl (L : List Dn) (n : Nat) : List Int := ((List.range n).filter (fun i => (lpB L (i : Nat) L.length).isSome)).map (fun i : Nat => (i : Int))
theorem wl_succ (L : List Dn) (n : Nat) : wl L (n + 1) = wl L n ++ (if (lpB L (n : Nat) L.length).isSome then [(n : Int)] else []) := by
  unfold wl
  rw [List.range_succ, List.filter_append, List.map_append]
  by_cases h : (lpB L (n : Nat) L.length).isSome <;> simp [h]
theorem lpB_lo {L : List Dn} (h : ∀ q ∈ L, 98 ≤ q.b) {i : Int} (hi : i < 98) : ∀ n, n ≤ L.length → lpB L i n = none := fun n hn => by
  rcases lp_some L i n hn with ⟨_, e⟩ | ⟨k, q, _, _, hq, e, _⟩
  · exact e
  · have := h q (List.mem_of_getElem? hq); omega
theorem wl_lo {L : List Dn} (h : ∀ q ∈ L, 98 ≤ q.b) : ∀ n, n ≤ 98 → wl L n = []
  | 0, _ => rfl
  | n + 1, hn => by
    rw [wl_succ, wl_lo h n (by omega), lpB_lo h (i := (n : Nat)) (by omega) _ (Nat.le_refl _)]
    rfl
theorem wl_nil (n : Nat) : wl [] n = [] := by
  unfold wl
  have : ∀ l : List Nat, l.filter (fun i => (lpB [] (i : Nat) ([] : List Dn).length).isSome) = [] := fun l => by
    rw [List.filter_eq_nil_iff]; intro a _; simp [lpB]
  rw [this]; rfl
theorem wl_len (L : List Dn) (n : Nat) : (wl L n).length ≤ n := by
  unfold wl
  rw [List.length_map]
  exact Nat.le_trans (List.length_filter_le _ _) (by simp)
/-- what Written tells -/
def wrL (U : RTx) (nb : Nat) : List Int := if U.ends then [] else wl U.row nb
def WrP (w : World) (l : List Int) (e : Ending) (w' : World) : Prop := ∃ v, e = .returned v ∧ OwL 3 1 w w' v l.length (l.map (Value.int .i64))
set_option maxRecDepth 100000 in
set_option maxHeartbeats 4000000 in
theorem rwritten_any (w : World) (a : AD) (R : RDk) (j : Nat) (h : RT w a R j) (U : RTx) (hU : RTxAt w U) (hr : U.r = R.r) : Calls Tryz.prog 39 #[.pointer (some ⟨U.u, 0, none⟩)] w (WrP w (wrL U a.nb)) := by
  have hnb := h.r.nb0
  rw [← h.tie.nb] at hnb
  obtain ⟨nb, hnbe⟩ : ∃ nb, a.nb = nb := ⟨_, rfl⟩
  have CB : Hid (∀ wx, Below w.heap.size w wx → Calls Tryz.prog 79 #[.pointer (some ⟨R.r, 0, none⟩)] wx fun e w' => e = .returned (.int .i64 (nb : Int)) ∧ Below wx.heap.size wx w') := fun wx hb => by have := rdblocks_any wx R (h.on hb).r; rw [← h.tie.nb, hnbe] at this; exact this
  have CP : Hid (∀ wx, Below w.heap.size w wx → ∀ i, Calls Tryz.prog 80 #[.pointer (some ⟨U.u, 0, none⟩), .int .i64 i] wx fun e w' => e = .returned (.int .i64 (lpN U.row i U.row.length)) ∧ Below wx.heap.size wx w') := fun wx hb i => r6put_any wx U (hU.on hb) i
  have HE : Hid (∀ q ∈ U.row, 98 ≤ q.b) := fun q hq => (hU.each q hq).1
  have HC : Hid (∀ wx, Below w.heap.size w wx → wx.cell? ⟨U.u, 0, none⟩ = some (.pointer (some ⟨R.r, 0, none⟩)) ∧ wx.cell? ⟨U.u, 2, none⟩ = some (.bool U.ends)) := fun wx hb => ⟨by rw [(hU.on hb).cell 0, ← hr]; rfl, (hU.on hb).cell 2⟩
  obtain ⟨aa, ac, ha, _⟩ := hU.at_
  have HC1 : Hid (∀ wx, Below w.heap.size w wx → wx.cell? ⟨U.u, 1, none⟩ = some (.slice aa U.row.length ac)) := fun wx hb => by rw [(hU.on hb).cell 1, ← ha]; rfl
  have hl := hU.len
  rw [hnbe]
  rw [hnbe] at hnb
  clear h ha hr hU hnbe
  cases hen : U.ends with
  | true =>
    rw [hen] at HC
    have eW : wrL U nb = [] := by unfold wrL; rw [if_pos hen]
    rw [eW]
    have c0 := (HC.out w (Below.refl _ _)).1
    by_cases hlo : (98 : Int) < (nb : Int)
    · go_enter Tryz.func39, Tryz.ntmps39
      go_wp2
      go_loopw [3, 4, 5] (fun s3 s4 s5 wr => s3 = .slice none 0 0 ∧ s4 = .int .i64 98 ∧ Below w.heap.size w wr) (fun _ _ _ _ => 0)
      case atStart => exact ⟨rfl, rfl, Below.refl _ _⟩
      case round =>
        obtain ⟨rfl, rfl, hb⟩ := hrel
        have HB : Hid (Below w.heap.size w wr) := hb
        clear hb c0
        obtain ⟨c0, c2⟩ := HC.out wr HB.out
        go_wp2_with (go_at_call 79; refine (CB.out wr HB.out).mono ?_; rintro e w1 ⟨rfl, hb1⟩; have H1 : Hid (Below w.heap.size w w1) := HB.out.trans (hb1.mono HB.out.size); clear hb1 c0 c2; obtain ⟨c0, c2⟩ := HC.out w1 H1.out)
        go_ret
        exact ⟨_, rfl, OwL.zero H1.out⟩
    · go_enter Tryz.func39, Tryz.ntmps39
      go_wp2
      go_loopw [3, 4, 5] (fun s3 s4 s5 wr => s3 = .slice none 0 0 ∧ s4 = .int .i64 98 ∧ Below w.heap.size w wr) (fun _ _ _ _ => 0)
      case atStart => exact ⟨rfl, rfl, Below.refl _ _⟩
      case round =>
        obtain ⟨rfl, rfl, hb⟩ := hrel
        have HB : Hid (Below w.heap.size w wr) := hb
        clear hb c0
        obtain ⟨c0, c2⟩ := HC.out wr HB.out
        go_wp2_with (go_at_call 79; refine (CB.out wr HB.out).mono ?_; rintro e w1 ⟨rfl, hb1⟩; have H1 : Hid (Below w.heap.size w w1) := HB.out.trans (hb1.mono HB.out.size); clear hb1)
        go_ret
        exact ⟨_, rfl, OwL.zero H1.out⟩
  | false =>
    rw [hen] at HC
    have eW : wrL U nb = wl U.row nb := by unfold wrL; rw [if_neg (by rw [hen]; simp)]
    rw [eW]
    clear eW
    obtain ⟨n, hn⟩ : ∃ n, U.row.length = n := ⟨_, rfl⟩
    rw [hn] at HC1 hl
    have c0 := (HC.out w (Below.refl _ _)).1
    obtain ⟨i1, j1, j2, j3, j4⟩ := info_parts infoNi
    go_enter Tryz.func39, Tryz.ntmps39
    go_wp2
    go_loopw [3, 4, 5] (fun s3 s4 s5 wr => ∃ i : Nat, s4 = .int .i64 (i : Int) ∧ 98 ≤ i ∧ (i ≤ nb ∨ i = 98) ∧ OwL 3 1 w wr s3 (wl U.row i).length ((wl U.row i).map (Value.int .i64))) (fun _ s4 _ _ => nb - (intOf s4).toNat)
    case atStart => exact ⟨98, rfl, Nat.le_refl _, .inr rfl, by rw [wl_lo HE.out 98 (Nat.le_refl _)]; exact OwL.zero (Below.refl _ _)⟩
    case round =>
      obtain ⟨i, rfl, h98, hi, hA⟩ := hrel
      have HA : Hid (OwL 3 1 w wr u3 (wl U.row i).length ((wl U.row i).map (Value.int .i64))) := hA
      clear hA c0
      obtain ⟨c0, c2⟩ := HC.out wr HA.out.bel
      by_cases hlt : i < nb
      · have hlt' : (i : Int) < (nb : Int) := by omega
        by_cases h0 : n = 0
        · have HZ : Hid (U.row = []) := List.length_eq_zero_iff.1 (hn.trans h0)
          have h0' : ¬ (0 : Int) < (n : Int) := by omega
          go_wp2_with (go_at_call 79; refine (CB.out wr HA.out.bel).mono ?_; rintro e w1 ⟨rfl, hb1⟩; have H1 : Hid (OwL 3 1 w w1 u3 (wl U.row i).length ((wl U.row i).map (Value.int .i64))) := HA.out.on hb1; clear hb1 c0 c2; obtain ⟨c0, c2⟩ := HC.out w1 H1.out.bel; have c1 := HC1.out w1 H1.out.bel)
          go_ret
          refine ⟨_, rfl, ?_⟩
          have := H1.out
          rw [HZ.out, wl_nil] at this ⊢
          exact this
        · have h0' : (0 : Int) < (n : Int) := by omega
          have hwl := wl_succ U.row i
          have hwn := wl_len U.row i
          rcases lp_some U.row (i : Nat) U.row.length (Nat.le_refl _) with ⟨e1, e2⟩ | ⟨k, q, hk, e1, e3, e4, e2⟩
          · rw [e2] at hwl
            have HW : Hid (wl U.row (i + 1) = wl U.row i) := by show wl U.row (i + 1) = wl U.row i; rw [hwl]; simp
            have H1N : Hid (lpN U.row (i : Nat) U.row.length = -1) := e1
            clear hwl e1 e2
            go_wp2_with (first
              | (go_at_call 80; refine (CP.out _ H1.out.bel i).mono ?_; rintro e w2 ⟨rfl, hb2⟩; rw [H1N.out]; have H2 : Hid (OwL 3 1 w w2 u3 (wl U.row i).length ((wl U.row i).map (Value.int .i64))) := H1.out.on hb2; clear hb2)
              | (go_at_call 79; refine (CB.out wr HA.out.bel).mono ?_; rintro e w1 ⟨rfl, hb1⟩; have H1 : Hid (OwL 3 1 w w1 u3 (wl U.row i).length ((wl U.row i).map (Value.int .i64))) := HA.out.on hb1; clear hb1 c0 c2; obtain ⟨c0, c2⟩ := HC.out w1 H1.out.bel; have c1 := HC1.out w1 H1.out.bel))
            exact ⟨⟨i + 1, rfl, by omega, .inl hlt, by rw [HW.out]; exact H2.out⟩, by simp [intOf]; omega⟩
          · rw [e2] at hwl
            have HW : Hid (wl U.row (i + 1) = wl U.row i ++ [(i : Int)]) := by show wl U.row (i + 1) = wl U.row i ++ [(i : Int)]; rw [hwl]; simp
            have H1N : Hid (lpN U.row (i : Nat) U.row.length = (k : Int)) := e1
            clear hwl e1 e2 e3 e4 hk
            obtain ⟨xs, hxs⟩ : ∃ xs, wl U.row i = xs := ⟨_, rfl⟩
            rw [hxs] at HA HW hwn
            clear hxs
            go_upto_region 7 with (first
              | (go_at_call 80; refine (CP.out _ H1.out.bel i).mono ?_; rintro e w2 ⟨rfl, hb2⟩; rw [H1N.out]; have H2 : Hid (OwL 3 1 w w2 u3 xs.length (xs.map (Value.int .i64))) := H1.out.on hb2; clear hb2)
              | (go_at_call 79; refine (CB.out wr HA.out.bel).mono ?_; rintro e w1 ⟨rfl, hb1⟩; have H1 : Hid (OwL 3 1 w w1 u3 xs.length (xs.map (Value.int .i64))) := HA.out.on hb1; clear hb1 c0 c2; obtain ⟨c0, c2⟩ := HC.out w1 H1.out.bel; have c1 := HC1.out w1 H1.out.bel))
            have ha : Below w2.heap.size w2 (w2.alloc (.cells #[.int .i64 (i : Int)] 3)) := (Below.refl _ _).alloc (Nat.le_refl _) _
            go_wp2_with (at_builtin; refine wp_own rfl (.tmp 35) (.tmp 37) 82 rfl 3 i1 _ 1 8 Tryz.underlying82 j1 j2 j3 j4 rfl (by decide) u3 xs.length (xs.map (Value.int .i64)) rfl (owns_fr H2.out.row (below_fr ha (fun _ => False)) (fun _ _ e => e)) ⟨w2.heap.size, 0, none⟩ 1 1 [.int .i64 (i : Int)] rfl (by decide) rfl (news_of (heap_alloc_new w2 _) _ rfl) (by intro u hu; simp at hu; subst hu; rfl) (by unfold maxLen; omega) (by omega) ?_
                         intro g cap w3 h1 h2 h3
                         go_frame
                         have H3 : Hid (OwL 3 1 w w3 (.slice (some ⟨g, 0, none⟩) (xs.length + 1) cap) (xs.length + 1) (xs.map (Value.int .i64) ++ [.int .i64 (i : Int)])) := H2.out.add ha h1 h2 h3
                         clear h1 h2 h3)
            exact ⟨⟨i + 1, rfl, by omega, .inl hlt, by rw [HW.out, List.length_append, List.map_append]; exact H3.out⟩, by simp [intOf]; omega⟩
      · have hlt' : ¬ (i : Int) < (nb : Int) := by omega
        have HW : Hid (wl U.row i = wl U.row nb) := by
          show wl U.row i = wl U.row nb
          rcases hi with hi | hi
          · rw [show i = nb by omega]
          · rw [hi, wl_lo HE.out 98 (Nat.le_refl _), wl_lo HE.out nb (by omega)]
        go_wp2_with (go_at_call 79; refine (CB.out wr HA.out.bel).mono ?_; rintro e w1 ⟨rfl, hb1⟩; have H1 : Hid (OwL 3 1 w w1 u3 (wl U.row i).length ((wl U.row i).map (Value.int .i64))) := HA.out.on hb1; clear hb1)
        go_ret
        exact ⟨_, rfl, by rw [← HW.out]; exact H1.out⟩
end Go.Proofs.YtflienghgobmoaaGreatDoor

namespace Go.Proofs.YtflienghgobmoaaGreatDoor
open Go.RowKit Rec
open Crc (W)
set_option maxRecDepth 100000 in
set_option maxHeartbeats 4000000 in
theorem r6crc_some (w : World) (b off cap : Nat) (l : List Int) (hlen : l.length ≤ 1000000000000000) (hwf : ∀ i, 0 ≤ nth l i ∧ nth l i < 256)
    (hc : ∀ i, i < l.length → w.cell? ⟨b, off + i, none⟩ = some (.int .u8 (nth l i))) :
    Calls Tryz.prog 158 #[.slice (some ⟨b, off, none⟩) l.length cap] w fun e w' => e = .returned (.int .u32 (U (Crc.crc l))) ∧ w = w' := by
  have HC : Hid (∀ i, i < l.length → w.cell? ⟨b, off + i, none⟩ = some (.int .u8 (nth l i))) := hc
  have HW : Hid (∀ i, 0 ≤ nth l i ∧ nth l i < 256) := hwf
  clear hc hwf
  generalize hn : l.length = n at *
  have HN : Hid (l.length = n) := hn
  clear hn
  go_enter Tryz.func158, Tryz.ntmps158
  go_wp2
  go_loop [3, 4, 5] (fun t i _ => ∃ k : Nat, k ≤ n ∧ i = .int .i64 k ∧ t = .int .u32 (U (Crc.fold Crc.ones (l.take k)))) (fun _ i _ => n - (intOf i).toNat)
  case atStart => exact ⟨0, Nat.zero_le _, rfl, rfl⟩
  case round =>
    obtain ⟨k, hk, rfl, rfl⟩ := hrel
    by_cases hlt : k < n
    · have c := HC.out k hlt
      have cb := HW.out k
      have hx := xor_byte (Crc.fold Crc.ones (l.take k)) (nth l k) cb
      have hs : Hid (Crc.fold Crc.ones (l.take (k + 1)) = Crc.pw Crc.pl 8 (Crc.fold Crc.ones (l.take k) ^^^ BitVec.ofInt 32 (nth l k))) := by
        rw [take_snoc l k (by rw [HN.out]; exact hlt)]; exact Crc.fold_snoc _ _ _
      generalize (Crc.fold Crc.ones (l.take k) ^^^ BitVec.ofInt 32 (nth l k)) = y at hx hs
      go_wp2
      go_loop [3, 5] (fun t j => ∃ m : Nat, m ≤ 8 ∧ j = .int .i64 m ∧ t = .int .u32 (U (Crc.pw Crc.pl m y))) (fun _ j => 8 - (intOf j).toNat)
      case atStart => exact ⟨0, Nat.zero_le _, rfl, rfl⟩
      case round =>
        obtain ⟨m, hm, rfl, rfl⟩ := hrel
        by_cases hmt : m < 8
        · have hp : Hid (Crc.pl (Crc.pw Crc.pl m y) = Crc.pw Crc.pl (m + 1) y) := (pw_succ m y).symm
          obtain ⟨x, hxx⟩ : ∃ x, Crc.pw Crc.pl m y = x := ⟨_, rfl⟩
          rw [hxx] at hp ⊢
          clear hxx hx c cb
          have lo := U_lo x
          have hi := U_hi x
          have hT := pl_odd x
          have hF := pl_evn x
          obtain ⟨z, hz⟩ : ∃ z, U x = z := ⟨_, rfl⟩
          obtain ⟨z', hz'⟩ : ∃ z', U (Crc.pl x) = z' := ⟨_, rfl⟩
          have HP : Hid (z' = U (Crc.pw Crc.pl (m + 1) y)) := by rw [← hz', hp.out]; rfl
          rw [hz] at lo hi hT hF ⊢
          rw [hz'] at hT hF
          clear hz hz' hp hs hm hlt hk
          cases h : (z % 2 == 1) with
          | true =>
            have e := hT h
            clear hT hF
            go_wp2
            go_round
            case rel => exact ⟨m + 1, by omega, by go_num, by rw [← HP.out]⟩
            case measure => simp [intOf]; omega
          | false =>
            have e := hF h
            clear hT hF
            go_wp2
            go_round
            case rel => exact ⟨m + 1, by omega, by go_num, by rw [← HP.out, ← e]⟩
            case measure => simp [intOf]; omega
        · obtain rfl : m = 8 := by omega
          go_wp2
          go_round
          case rel => exact ⟨k + 1, by omega, by go_num, by rw [hs.out]⟩
          case measure => simp [intOf]; omega
    · have hx := xor_ones (Crc.fold Crc.ones (l.take k))
      go_wp2
      go_ret
      refine ⟨?_, rfl⟩
      have e2 : bits .xor .u32 IntKind.u32.max (U (Crc.fold Crc.ones (List.take k l))) = U (Crc.ones ^^^ Crc.fold Crc.ones (List.take k l)) := by rw [← bits_xor]; rfl
      rw [e2, BitVec.xor_comm, List.take_of_length_le (by rw [HN.out]; omega)]; rfl
set_option maxRecDepth 100000 in
set_option maxHeartbeats 4000000 in
/-- low: a number's bytes -/
theorem r6low_any (w : World) (v : Int) (hv : 0 ≤ v ∧ v < 4294967296) (k : Nat) (hk : k ≤ 8) :
    Calls Tryz.prog 157 #[.int .i64 v, .int .i64 (k : Int)] w fun e w' => ∃ a c, e = .returned (.slice a k c) ∧ OwL 5 1 w w' (.slice a k c) k ((dgs v k).map (Value.int .u8)) := by
  obtain ⟨i1, j1, j2, j3, j4⟩ := info_parts info5
  go_enter Tryz.func157, Tryz.ntmps157
  go_wp2
  go_loopw [0, 5, 6] (fun s0 s5 s6 wr => ∃ i : Nat, ∃ a c, i ≤ k ∧ s6 = .int .i64 (i : Int) ∧ s0 = .int .i64 (v / 256 ^ i) ∧ s5 = .slice a i c ∧ OwL 5 1 w wr (.slice a i c) i ((dgs v i).map (Value.int .u8))) (fun _ _ s6 _ => k - (intOf s6).toNat)
  case atStart => exact ⟨0, none, 0, Nat.zero_le _, rfl, by simp, rfl, OwL.zero (Below.refl _ _)⟩
  case round =>
    obtain ⟨i, a, c, hi, rfl, rfl, rfl, hA⟩ := hrel
    have HA : Hid (OwL 5 1 w wr (.slice a i c) i ((dgs v i).map (Value.int .u8))) := hA
    clear hA
    by_cases hlt : i < k
    · have hlt' : (i : Int) < (k : Int) := by omega
      have HD : Hid (v / 256 ^ i % 256 = dig v i ∧ v / 256 ^ i / 256 = v / 256 ^ (i + 1)) := ⟨rfl, by rw [Int.pow_succ, Int.ediv_ediv_of_nonneg (by have : (0 : Int) < 256 ^ i := Int.pow_pos (by decide); omega)]⟩
      have hy : 0 ≤ v / 256 ^ i ∧ v / 256 ^ i < 4294967296 := by
        have hp : (0 : Int) < 256 ^ i := Int.pow_pos (by decide)
        exact ⟨Int.ediv_nonneg hv.1 (by omega), Int.lt_of_le_of_lt (Int.ediv_le_self _ hv.1) hv.2⟩
      obtain ⟨y, hyy⟩ : ∃ y, v / 256 ^ i = y := ⟨_, rfl⟩
      rw [hyy] at HD hy ⊢
      clear hyy
      obtain ⟨y0, y1⟩ := hy
      have hd : 0 ≤ y % 256 ∧ y % 256 < 256 := by omega
      have ha : Below wr.heap.size wr (wr.alloc (.cells #[.int .u8 (y % 256)] 5)) := (Below.refl _ _).alloc (Nat.le_refl _) _
      go_wp2_with (at_builtin; refine wp_own rfl (.tmp 12) (.tmp 16) 22 rfl 5 i1 _ 1 1 Tryz.underlying22 j1 j2 j3 j4 rfl (by decide) (.slice a i c) i ((dgs v i).map (Value.int .u8)) rfl (owns_fr HA.out.row (below_fr ha (fun _ => False)) (fun _ _ e => e)) ⟨wr.heap.size, 0, none⟩ 1 1 [.int .u8 (y % 256)] rfl (by decide) rfl (news_of (heap_alloc_new wr _) _ rfl) (by intro u hu; simp at hu; subst hu; rfl) (by unfold maxLen; omega) (by omega) ?_
                   intro g cap w3 h1 h2 h3
                   go_frame
                   have H3 : Hid (OwL 5 1 w w3 (.slice (some ⟨g, 0, none⟩) (i + 1) cap) (i + 1) ((dgs v i).map (Value.int .u8) ++ [.int .u8 (y % 256)])) := HA.out.add ha h1 h2 h3
                   clear h1 h2 h3)
      exact ⟨⟨i + 1, some ⟨g, 0, none⟩, cap, hlt, rfl, by rw [← HD.out.2], rfl, by rw [dgs_succ, List.map_append, ← HD.out.1]; exact H3.out⟩, by simp [intOf]; omega⟩
    · have hik : i = k := by omega
      subst hik
      go_wp2
      go_ret
      exact ⟨_, _, rfl, HA.out⟩
end Go.Proofs.YtflienghgobmoaaGreatDoor

namespace Go.Proofs.YtflienghgobmoaaGreatDoor
open Go.RowKit Rec
/-- a list of bytes of one's own -/
structure BL (w0 wr : World) (v : Value) (l : List Int) : Prop where
  o : OwL 5 1 w0 wr v l.length (l.map (Value.int .u8))
  wf : ∀ i, 0 ≤ nth l i ∧ nth l i < 256
  sm : l.length ≤ 1000000000
def ApV (u v : Value) : Prop := ∀ k, u.ownBlock = some k → v.ownBlock ≠ some k
theorem BL.bytes {w0 wr : World} {v : Value} {l : List Int} (h : BL w0 wr v l) : ∃ a c, v = .slice a l.length c ∧ Bytes wr a l := by
  obtain ⟨a, c, e, _⟩ := owns_slice h.o.row
  refine ⟨a, c, e, ⟨by have := h.sm; omega, h.wf, ?_⟩⟩
  by_cases h0 : l = []
  · exact .inl h0
  · rcases h.o.row.2 with ⟨_, e2⟩ | ⟨g, cap, cur, e2, _⟩
    · exact absurd (List.eq_nil_of_length_eq_zero e2) h0
    · rw [e] at e2
      cases e2
      refine .inr ⟨g, 0, rfl, fun i hi => ?_⟩
      have hc := World.ownsRow.cells h.o.row (g := g) (by rw [e]; rfl) i (.int .u8 (nth l i)) (by rw [List.getElem?_map, List.getElem?_eq_getElem hi]; simp [nth, List.getD, hi])
      rw [Addr.add_lit, Nat.zero_add] at hc
      rw [Nat.zero_add]
      exact hc
theorem box_at {w w' : World} {cs : Array Value} {t : Nat} (hb : Below (w.alloc (.cells cs t)).heap.size (w.alloc (.cells cs t)) w') (i : Nat) : w'.cell? ⟨w.heap.size, i, none⟩ = cs[i]? := cell_of_row _ _ i _ _ _ ((hb.block w.heap.size (by simp)).trans (heap_alloc_new _ _))
theorem BL.row {w0 wr : World} {v : Value} {l : List Int} {k : Nat} (h : BL w0 wr v l) (hk : l.length = k) : wr.ownsRow 0 5 1 v k (l.map (Value.int .u8)) := by subst hk; exact h.o.row
theorem BL.addr {w0 wr : World} {v : Value} {l : List Int} {k : Nat} (h : BL w0 wr v l) (hk : l.length = k) (h0 : 0 < k) : ∃ g c, v = .slice (some ⟨g, 0, none⟩) k c ∧ Bytes wr (some ⟨g, 0, none⟩) l := by
  subst hk
  obtain ⟨a, c, e, hB⟩ := h.bytes
  rcases h.o.row.2 with ⟨e2, e3⟩ | ⟨g, cap, cur, e2, _⟩
  · omega
  · rw [e] at e2; cases e2; exact ⟨g, c, e, hB⟩
theorem BL.by_ {w0 wr : World} {g n cap : Nat} {l : List Int} (h : BL w0 wr (.slice (some ⟨g, 0, none⟩) n cap) l) (hk : l.length = n) (h0 : 0 < n) : Bytes wr (some ⟨g, 0, none⟩) l := by
  obtain ⟨g', c, e, hB⟩ := h.addr hk h0
  cases e; exact hB
def lenV : Value → Nat
  | .slice _ n _ => n
  | _ => 0
theorem BL.zero {w0 wr : World} (hb : Below w0.heap.size w0 wr) : BL w0 wr (.slice none 0 0) [] := ⟨OwL.zero hb, (fun i => by simp [nth]), by simp⟩
theorem BL.on {w0 wr w' : World} {v : Value} {l : List Int} (h : BL w0 wr v l) (hb : Below wr.heap.size wr w') : BL w0 w' v l := ⟨h.o.on hb, h.wf, h.sm⟩
theorem BL.oth {w0 wr wa w' : World} {u v : Value} {l : List Int} (h : BL w0 wr v l) (hap : ApV u v) (ha : Below wr.heap.size wr wa) (h2 : Fr (fun k => u.ownBlock = some k) wa w') (hf : ∀ k, u.ownBlock = some k → w0.heap.size ≤ k) : BL w0 w' v l := by
  have h' := h.on ha
  exact ⟨⟨owns_fr h'.o.row h2 (fun k hk e => hap k e hk), h.o.far, h'.o.bel.trans (h2.below _ hf h'.o.bel.size)⟩, h.wf, h.sm⟩
theorem BL.grow {w0 wr wa w' : World} {v : Value} {l y : List Int} {k m g cap : Nat} (h : BL w0 wr v l) (hk : l.length = k) (hm : y.length = m) (hy : ∀ i, 0 ≤ nth y i ∧ nth y i < 256) (hs : k + m ≤ 1000000000) (ha : Below wr.heap.size wr wa) (h1 : w'.ownsRow 0 5 1 (.slice (some ⟨g, 0, none⟩) (k + m) cap) (k + m) ((l ++ y).map (Value.int .u8))) (h2 : Fr (fun k => v.ownBlock = some k) wa w') (h3 : v.ownBlock = some g ∨ wa.heap.size ≤ g) :
    BL w0 w' (.slice (some ⟨g, 0, none⟩) (k + m) cap) (l ++ y) := by
  subst hk hm
  have hx := h.o.add ha (ys := y.map (Value.int .u8)) (by rw [List.map_append] at h1; exact h1) h2 h3
  refine ⟨by rw [List.length_append, List.map_append]; exact hx, fun i => ?_, by rw [List.length_append]; exact hs⟩
  by_cases hi : i < l.length
  · rw [nth_app_l _ _ _ hi]; exact h.wf i
  · rw [nth_app_r _ _ _ (by omega)]; exact hy _
theorem ap_grow {wa wr : World} {v u : Value} {g n cap : Nat} (hap : ApV u v) (hu : ∀ k, u.ownBlock = some k → k < wr.heap.size) (ha : wr.heap.size ≤ wa.heap.size) (h3 : v.ownBlock = some g ∨ wa.heap.size ≤ g) : ApV u (.slice (some ⟨g, 0, none⟩) n cap) := fun k hk e => by
  cases e
  rcases h3 with e | e
  · exact hap _ hk e
  · have : g < wr.heap.size := hu _ hk; omega
theorem ApV.symm {u v : Value} (h : ApV u v) : ApV v u := fun k hk e => h k e hk
/-- the header's lists, as they grow -/
structure HdT (w0 wr : World) (fv bv dv : Value) (F B D : List Int) : Prop where
  f : BL w0 wr fv F
  b : BL w0 wr bv B
  d : BL w0 wr dv D
  fb : ApV fv bv
  fd : ApV fv dv
  bd : ApV bv dv
theorem HdT.on {w0 wr w' : World} {fv bv dv : Value} {F B D : List Int} (h : HdT w0 wr fv bv dv F B D) (hb : Below wr.heap.size wr w') : HdT w0 w' fv bv dv F B D := ⟨h.f.on hb, h.b.on hb, h.d.on hb, h.fb, h.fd, h.bd⟩
theorem BL.lt {w0 wr : World} {v : Value} {l : List Int} (h : BL w0 wr v l) : ∀ k, v.ownBlock = some k → k < wr.heap.size := fun _ hk => owns_block h.o.row hk
section
variable {w0 wr wa w' : World} {fv bv dv : Value} {F B D y : List Int} {k m g cap : Nat}
theorem HdT.growB (h : HdT w0 wr fv bv dv F B D) (hk : B.length = k) (hm : y.length = m) (hy : ∀ i, 0 ≤ nth y i ∧ nth y i < 256) (hs : k + m ≤ 1000000000) (ha : Below wr.heap.size wr wa) (h1 : w'.ownsRow 0 5 1 (.slice (some ⟨g, 0, none⟩) (k + m) cap) (k + m) ((B ++ y).map (Value.int .u8))) (h2 : Fr (fun k => bv.ownBlock = some k) wa w') (h3 : bv.ownBlock = some g ∨ wa.heap.size ≤ g) :
    HdT w0 w' fv (.slice (some ⟨g, 0, none⟩) (k + m) cap) dv F (B ++ y) D :=
  ⟨h.f.oth h.fb.symm ha h2 h.b.o.far, h.b.grow hk hm hy hs ha h1 h2 h3, h.d.oth h.bd ha h2 h.b.o.far, ap_grow h.fb h.f.lt ha.size h3, h.fd, (ap_grow h.bd.symm h.d.lt ha.size h3).symm⟩
theorem HdT.growD (h : HdT w0 wr fv bv dv F B D) (hk : D.length = k) (hm : y.length = m) (hy : ∀ i, 0 ≤ nth y i ∧ nth y i < 256) (hs : k + m ≤ 1000000000) (ha : Below wr.heap.size wr wa) (h1 : w'.ownsRow 0 5 1 (.slice (some ⟨g, 0, none⟩) (k + m) cap) (k + m) ((D ++ y).map (Value.int .u8))) (h2 : Fr (fun k => dv.ownBlock = some k) wa w') (h3 : dv.ownBlock = some g ∨ wa.heap.size ≤ g) :
    HdT w0 w' fv bv (.slice (some ⟨g, 0, none⟩) (k + m) cap) F B (D ++ y) :=
  ⟨h.f.oth h.fd.symm ha h2 h.d.o.far, h.b.oth h.bd.symm ha h2 h.d.o.far, h.d.grow hk hm hy hs ha h1 h2 h3, h.fb, ap_grow h.fd h.f.lt ha.size h3, ap_grow h.bd h.b.lt ha.size h3⟩
theorem HdT.growF (h : HdT w0 wr fv bv dv F B D) (hk : F.length = k) (hm : y.length = m) (hy : ∀ i, 0 ≤ nth y i ∧ nth y i < 256) (hs : k + m ≤ 1000000000) (ha : Below wr.heap.size wr wa) (h1 : w'.ownsRow 0 5 1 (.slice (some ⟨g, 0, none⟩) (k + m) cap) (k + m) ((F ++ y).map (Value.int .u8))) (h2 : Fr (fun k => fv.ownBlock = some k) wa w') (h3 : fv.ownBlock = some g ∨ wa.heap.size ≤ g) :
    HdT w0 w' (.slice (some ⟨g, 0, none⟩) (k + m) cap) bv dv (F ++ y) B D :=
  ⟨h.f.grow hk hm hy hs ha h1 h2 h3, h.b.oth h.fb ha h2 h.f.o.far, h.d.oth h.fd ha h2 h.f.o.far, (ap_grow h.fb.symm h.b.lt ha.size h3).symm, (ap_grow h.fd.symm h.d.lt ha.size h3).symm, h.bd⟩
end
/-- a row of one's own, laid by its cells -/
theorem BL.lit {w0 w : World} {l : List Int} {k : Nat} (hb : Below w0.heap.size w0 w) (hk : l.length = k) (h0 : 0 < k) (hl : l.length ≤ 1000000000) (hw : ∀ i, 0 ≤ nth l i ∧ nth l i < 256) : BL w0 (w.alloc (.cells (l.map (Value.int .u8)).toArray 5)) (.slice (some ⟨w.heap.size, 0, none⟩) k k) l := by
  have hO : OwnB (w.alloc (.cells (l.map (Value.int .u8)).toArray 5)) w.heap.size l.length l := ⟨⟨_, heap_alloc_new _ _, by simp, by rw [List.take_of_length_le (by simp)]⟩, by omega, Nat.le_refl _, by unfold maxLen; omega, hw⟩
  subst hk
  exact ⟨⟨owns_of hO (Nat.zero_le _), fun k e => by cases e; exact hb.size, hb.alloc hb.size _⟩, hw, hl⟩
end Go.Proofs.YtflienghgobmoaaGreatDoor

import Derived.Test.YtflienghgobmoaaGreatDoorKXsA
import Derived.Test.YtflienghgobmoaaGreatDoorKPyM
import Derived.Lib.ConvBytes
import Derived.Test.YtflienghgobmoaaGreatDoorKOpens
import Derived.Test.YtflienghgobmoaaGreatDoorKWalC
import Derived.Test.YtflienghgobmoaaGreatDoorKWpG
namespace Go.Proofs.YtflienghgobmoaaGreatDoor
open Go.RowKit Rec
/-- the bytes of a text -/
theorem s2b (w : World) (x : List Int) (hl : x.length ≤ 1000000000000000) (hx : ∀ i, 0 ≤ nth x i ∧ nth x i < 256) : ∃ w' c, (convert 9 22 (.string (strOfNums x))).run Tryz.prog w = .ok (.slice (some ⟨w.heap.size, 0, none⟩) x.length c) w' ∧ Bytes w' (some ⟨w.heap.size, 0, none⟩) x ∧ Below w.heap.size w w' := by
  have h := Lib.run_convert_string_bytes (P := Tryz.prog) w 9 22 5 (strOfNums x) Tryz.underlying9 Tryz.underlying22 Tryz.underlying5
  rw [strOfNums_size] at h
  refine ⟨_, _, h, ⟨hl, hx, .inr ⟨_, 0, rfl, fun i hi => ?_⟩⟩, ⟨rfl, rfl, rfl, by rw [Lib.bytesWorld_size]; omega, fun k hk => Lib.bytesWorld_at_old _ _ _ _ hk⟩⟩
  rw [Nat.zero_add, Lib.bytesWorld_cell _ _ _ _ (by rw [strOfNums_size]; exact hi), strOfNums_data]
  have h1 := hx i
  have e : (x.map fun n => UInt8.ofNat n.toNat).getD i 0 = UInt8.ofNat (nth x i).toNat := by
    unfold nth
    rw [List.getD_eq_getElem?_getD, List.getD_eq_getElem?_getD, List.getElem?_map, List.getElem?_eq_getElem hi]
    rfl
  have e2 : ((UInt8.ofNat (nth x i).toNat).toNat : Int) = nth x i := by rw [UInt8.toNat_ofNat']; omega
  rw [e, e2]
/-- what Read tells -/
def rxE (a : AD) (U : RTx) (i : Int) : Int := if U.ends then 61 else if 0 ≤ i ∧ i < a.nb then (match lpB U.row i U.row.length with | some _ => 0 | none => if a.down then 30 else 0) else 31
def rxB (a : AD) (U : RTx) (i : Int) : List Int := if U.ends then [] else if 0 ≤ i ∧ i < a.nb then (match lpB U.row i U.row.length with | some x => x | none => if a.down then [] else bck a.full i.toNat) else []
theorem RT.flenX {w : World} {a : AD} {R : RDk} {j : Nat} (h : RT w a R j) (hd : a.down = false) : a.full.length = 512 * a.nb := by
  have hdo : a.down = R.out := h.tie.dn
  have hro : R.out = false := by rw [← hdo]; exact hd
  obtain ⟨o1, o2, _⟩ := h.tie.on hro
  have : a.full = alw R.f R.L R.L.length := by
    rw [← lsf_alw, ← o1, ← o2]; rfl
  rw [this, alw_length, h.r.flen, h.tie.nb]
theorem bck512 {w : World} {a : AD} {R : RDk} {j : Nat} (h : RT w a R j) (hd : a.down = false) {i : Nat} (hi : i < a.nb) : (bck a.full i).length = 512 := by
  have hl : a.full.length = 512 * a.nb := RT.flenX h hd
  unfold bck
  rw [List.length_take, List.length_drop]
  omega
def RxP (w : World) (E : Int) (x : List Int) (e : Ending) (w' : World) : Prop := ∃ pa n c, e = .returned (.tuple #[.slice pa n c, .int .i64 E]) ∧ Bytes w' pa x ∧ x.length = n ∧ Below w.heap.size w w'
theorem rx_none (w w' : World) (hb : Below w.heap.size w w') (E : Int) : RxP w E [] (.returned (.tuple #[.slice none 0 0, .int .i64 E])) w' := ⟨none, 0, 0, rfl, ⟨by simp, (fun i => by simp [nth]), .inl rfl⟩, rfl, hb⟩
set_option maxRecDepth 100000 in
set_option maxHeartbeats 4000000 in
theorem rxread_any (w : World) (a : AD) (R : RDk) (j : Nat) (h : RT w a R j) (U : RTx) (hU : RTxAt w U) (hr : U.r = R.r) (i : Int) : Calls Tryz.prog 66 #[.pointer (some ⟨U.u, 0, none⟩), .int .i64 i] w (RxP w (rxE a U i) (rxB a U i)) := by
  have HD : Hid (RT w a R j ∧ RTxAt w U) := ⟨h, hU⟩
  have c0 : w.cell? ⟨U.u, 0, none⟩ = some (.pointer (some ⟨R.r, 0, none⟩)) := by rw [hU.cell 0, ← hr]; rfl
  have c2 : w.cell? ⟨U.u, 2, none⟩ = some (.bool U.ends) := hU.cell 2
  have CB : Hid (Calls Tryz.prog 79 #[.pointer (some ⟨R.r, 0, none⟩)] w fun e w' => e = .returned (.int .i64 (a.nb : Int)) ∧ Below w.heap.size w w') := by have := rdblocks_any w R h.r; rw [← h.tie.nb] at this; exact this
  have hN := h.tie.nb
  have hnb := h.r.nb0
  rw [← hN] at hnb
  obtain ⟨E, hE⟩ : ∃ E, rxE a U i = E := ⟨_, rfl⟩
  obtain ⟨x, hx⟩ : ∃ x, rxB a U i = x := ⟨_, rfl⟩
  obtain ⟨nb, hnbe⟩ : ∃ nb, a.nb = nb := ⟨_, rfl⟩
  rw [hE, hx]
  unfold rxE at hE
  unfold rxB at hx
  rw [hnbe] at hE hx CB hnb
  clear h hU hN
  cases hen : U.ends with
  | true =>
    rw [hen] at c2
    rw [if_pos hen] at hE hx
    subst hE hx
    clear CB
    go_enter Tryz.func66, Tryz.ntmps66
    go_wp2
    go_ret2
    exact rx_none _ _ (Below.refl _ _) _
  | false =>
    rw [hen] at c2
    rw [if_neg (by rw [hen]; simp)] at hE hx
    by_cases hin : 0 ≤ i ∧ i < nb
    · obtain ⟨h0, h1⟩ := hin
      rw [if_pos ⟨h0, h1⟩] at hE hx
      have h0' : ¬ i < 0 := by omega
      have h1' : ¬ (nb : Int) ≤ i := by omega
      have hlp := lpN_lo U.row i U.row.length
      rcases lp_some U.row i U.row.length (Nat.le_refl _) with ⟨e1, e2⟩ | ⟨k, q, hk, e1, e3, e4, e2⟩
      · rw [e2] at hE hx
        dsimp only at hE hx
        have HC : Hid (∀ wx, Below w.heap.size w wx → wx.cell? ⟨U.u, 0, none⟩ = some (.pointer (some ⟨R.r, 0, none⟩))) := fun wx hb => by rw [(HD.out.2.on hb).cell 0, ← hr]; rfl
        cases hdn : a.down with
        | true =>
          rw [hdn] at hE hx
          subst hE hx
          go_enter Tryz.func66, Tryz.ntmps66
          go_wp2_with (first
            | (go_at_call 79; refine CB.out.mono ?_; rintro e w1 ⟨rfl, hb1⟩; have H1 : Hid (Below w.heap.size w w1) := hb1; clear CB c0 c2 hb1; have c0 := HC.out w1 H1.out)
            | (go_at_call 80; refine (r6put_any w1 U (HD.out.2.on H1.out) i).mono ?_; rintro e w2 ⟨rfl, hb2⟩; rw [e1]; have H2 : Hid (Below w.heap.size w w2) := H1.out.trans (hb2.mono H1.out.size); clear c0 hb2; have c0 := HC.out w2 H2.out)
            | (go_at_call 105; refine (rread_out w2 R (HD.out.1.on H2.out).r (by have := HD.out.1.tie.dn; rw [hdn] at this; exact this.symm) i).mono ?_; rintro e w3 ⟨rfl, rfl⟩))
          go_ret2
          exact rx_none _ _ H2.out _
        | false =>
          rw [hdn] at hE hx
          subst hE hx
          obtain ⟨m, rfl⟩ : ∃ m : Nat, i = (m : Int) := ⟨i.toNat, by omega⟩
          go_enter Tryz.func66, Tryz.ntmps66
          go_wp2_with (first
            | (go_at_call 79; refine CB.out.mono ?_; rintro e w1 ⟨rfl, hb1⟩; have H1 : Hid (Below w.heap.size w w1) := hb1; clear CB c0 c2 hb1; have c0 := HC.out w1 H1.out)
            | (go_at_call 80; refine (r6put_any w1 U (HD.out.2.on H1.out) m).mono ?_; rintro e w2 ⟨rfl, hb2⟩; rw [e1]; have H2 : Hid (Below w.heap.size w w2) := H1.out.trans (hb2.mono H1.out.size); clear c0 hb2; have c0 := HC.out w2 H2.out)
            | (go_at_call 105; refine ((HD.out.1.on H2.out).read hdn m (by omega)).mono ?_; rintro e w3 ⟨g, cap, rfl, hg, ho, hb3⟩; have H3 : Hid (OwnB w3 g cap (bck a.full m) ∧ Below w.heap.size w w3) := ⟨ho, H2.out.trans (hb3.mono H2.out.size)⟩; clear hg ho hb3))
          go_ret2
          have h512 : (bck a.full m).length = 512 := bck512 HD.out.1 hdn (by omega)
          exact ⟨_, _, _, rfl, H3.out.1.bytes, h512, H3.out.2⟩
      · rw [e2] at hE hx
        dsimp only at hE hx
        subst hE hx
        obtain ⟨aa, ac, ha, hA⟩ := HD.out.2.at_
        have hl := HD.out.2.len
        obtain ⟨b, off, rfl, hcs⟩ := hA.resolve_left (by intro e; rw [e] at hk; simp at hk)
        have hq := HD.out.2.each q (List.mem_of_getElem? e3)
        have HC : Hid (∀ wx, Below w.heap.size w wx → wx.cell? ⟨U.u, 1, none⟩ = some (.slice (some ⟨b, off, none⟩) U.row.length ac) ∧ wx.cell? ⟨b, off + k * 2 + 1, none⟩ = some (.string (strOfNums q.x))) := fun wx hb => ⟨by rw [(HD.out.2.on hb).cell 1, ← ha]; rfl, (below_fr hb (fun _ => False)).cell (hcs k q e3).2 (fun e => e)⟩
        have HS : Hid (∀ wx, ∃ w' c, (convert 9 22 (.string (strOfNums q.x))).run Tryz.prog wx = .ok (.slice (some ⟨wx.heap.size, 0, none⟩) q.x.length c) w' ∧ Bytes w' (some ⟨wx.heap.size, 0, none⟩) q.x ∧ Below wx.heap.size wx w') := fun wx => s2b wx q.x (by omega) hq.2.2.2
        obtain ⟨x, hxe⟩ : ∃ x, q.x = x := ⟨_, rfl⟩
        rw [hxe] at HC HS ⊢
        obtain ⟨n, hn⟩ : ∃ n, U.row.length = n := ⟨_, rfl⟩
        rw [hn] at hk hl HC e1
        have hkn : (k : Int) < (n : Int) := by omega
        clear hA ha hcs hq hxe
        go_enter Tryz.func66, Tryz.ntmps66
        go_upto_region 7 with (first
            | (go_at_call 79; refine CB.out.mono ?_; rintro e w1 ⟨rfl, hb1⟩; have H1 : Hid (Below w.heap.size w w1) := hb1; clear CB c0 c2 hb1)
            | (go_at_call 80; refine (r6put_any w1 U (HD.out.2.on H1.out) i).mono ?_; rintro e w2 ⟨rfl, hb2⟩; rw [hn, e1]; have H2 : Hid (Below w.heap.size w w2) := H1.out.trans (hb2.mono H1.out.size); clear hb2))
        obtain ⟨d1, d2⟩ := HC.out w2 H2.out
        obtain ⟨w3, c3, hcv, hB3, hb3⟩ := HS.out w2
        have H3 : Hid (Bytes w3 (some ⟨w2.heap.size, 0, none⟩) x ∧ Below w.heap.size w w3) := ⟨hB3, H2.out.trans (hb3.mono H2.out.size)⟩
        clear hB3 hb3
        go_wp2
        go_ret2
        exact ⟨_, _, _, rfl, H3.out.1, rfl, H3.out.2⟩
    · rw [if_neg hin] at hE hx
      subst hE hx
      by_cases h0 : i < 0
      · clear hin CB
        go_enter Tryz.func66, Tryz.ntmps66
        go_wp2
        go_ret2
        exact rx_none _ _ (Below.refl _ _) _
      · have h1 : (nb : Int) ≤ i := by omega
        clear hin
        go_enter Tryz.func66, Tryz.ntmps66
        go_wp2_with (go_at_call 79; refine CB.out.mono ?_; rintro e w1 ⟨rfl, hb1⟩; have H1 : Hid (Below w.heap.size w w1) := hb1; clear hb1)
        go_ret2
        exact rx_none _ _ H1.out _
end Go.Proofs.YtflienghgobmoaaGreatDoor

namespace Go.Proofs.YtflienghgobmoaaGreatDoor
open Go.RowKit Rec

end Go.Proofs.YtflienghgobmoaaGreatDoor

namespace Go.Proofs.YtflienghgobmoaaGreatDoor
open Go.RowKit Rec

end Go.Proofs.YtflienghgobmoaaGreatDoor

namespace Go.Proofs.YtflienghgobmoaaGreatDoor
open Go.RowKit Rec

end Go.Proofs.YtflienghgobmoaaGreatDoor

namespace Go.Proofs.YtflienghgobmoaaGreatDoor
open Go.RowKit Rec

end Go.Proofs.YtflienghgobmoaaGreatDoor

namespace Go.Proofs.YtflienghgobmoaaGreatDoor
open Go.RowKit Rec

end Go.Proofs.YtflienghgobmoaaGreatDoor

namespace Go.Proofs.YtflienghgobmoaaGreatDoor
open Go.RowKit Rec

end Go.Proofs.YtflienghgobmoaaGreatDoor

namespace Go.Proofs.YtflienghgobmoaaGreatDoor
open Go.RowKit Rec

theorem Ints.front {w : World} {a : Option Addr} {l m : List Int} (h : Ints w a (l ++ m)) : Ints w a l := by
  refine ⟨by have := h.len; simp at this; omega, ?_⟩
  rcases h.at_ with e | ⟨b, off, rfl, hc⟩
  · exact .inl (by simp at e; exact e.1)
  · refine .inr ⟨b, off, rfl, fun i hi => ?_⟩
    rw [hc i (by simp; omega)]
    congr 2
    unfold nth
    simp [List.getD, List.getElem?_append_left hi]
/-- the header that is made, or nothing -/
def hdr (ns : List Int) (ds : List (List Int)) : List Int := if makeE ns ds = 0 then made ns ds else []
structure HdAt (w : World) (a : Option Addr) (n c : Nat) (x : List Int) : Prop where
  len : x.length = n
  bytes : Bytes w a x
  nil : a = none → c = 0
  top : n ≤ 140737488351232
theorem HdAt.on {w w' : World} {a : Option Addr} {n c : Nat} {x : List Int} (h : HdAt w a n c x) (hb : Below w.heap.size w w') : HdAt w' a n c x := ⟨h.len, h.bytes.on hb, h.nil, h.top⟩
end Go.Proofs.YtflienghgobmoaaGreatDoor

namespace Go.Proofs.YtflienghgobmoaaGreatDoor
open Go.RowKit Rec
/-- may a log be read? -/
def opE (a : AD) : Int := if a.down then 30 else logE a.full a.nb
theorem RT.flen {w : World} {a : AD} {R : RDk} {j : Nat} (h : RT w a R j) (hd : a.down = false) : a.full.length = 512 * a.nb := by
  have hdo : a.down = R.out := h.tie.dn
  have hro : R.out = false := by rw [← hdo]; exact hd
  obtain ⟨o1, o2, _⟩ := h.tie.on hro
  have : a.full = alw R.f R.L R.L.length := by
    rw [← lsf_alw, ← o1, ← o2]; rfl
  rw [this, alw_length, h.r.flen, h.tie.nb]
/-- blocks that were read, a row of their own -/
structure DtL (w wr : World) (v : Value) (L : List BG) : Prop where
  row : wr.ownsRow 0 22 1 v L.length (L.map BG.v)
  each : ∀ q ∈ L, ∃ g, q.a = some ⟨g, 0, none⟩ ∧ OwnB wr g q.c q.x ∧ w.heap.size ≤ g
  far : ∀ k, v.ownBlock = some k → w.heap.size ≤ k
  bel : Below w.heap.size w wr
theorem DtL.zero {w wr : World} (hb : Below w.heap.size w wr) : DtL w wr (.slice none 0 0) [] := ⟨⟨rfl, .inl ⟨rfl, rfl⟩⟩, (fun q h => by cases h), (fun k h => by cases h), hb⟩
theorem DtL.on {w wr w' : World} {v : Value} {L : List BG} (h : DtL w wr v L) (hb : Below wr.heap.size wr w') : DtL w w' v L := ⟨owns_on h.row hb, fun q hq => by obtain ⟨g, e, ho, hg⟩ := h.each q hq; exact ⟨g, e, ho.on hb, hg⟩, h.far, h.bel.trans (hb.mono h.bel.size)⟩
theorem DtL.add {w wr wa w' : World} {v : Value} {L : List BG} {q : BG} {g g1 cap k : Nat} (h : DtL w wr v L) (hk : L.length = k) (ha : Below wr.heap.size wr wa) (hq : q.a = some ⟨g1, 0, none⟩ ∧ OwnB wa g1 q.c q.x ∧ w.heap.size ≤ g1) (h1 : w'.ownsRow 0 22 1 (.slice (some ⟨g, 0, none⟩) (k + 1) cap) (k + 1) (L.map BG.v ++ [q.v])) (h2 : Fr (fun k => v.ownBlock = some k) wa w') (h3 : v.ownBlock = some g ∨ wa.heap.size ≤ g) : DtL w w' (.slice (some ⟨g, 0, none⟩) (k + 1) cap) (L ++ [q]) := by
  subst hk
  have h' := h.on ha
  refine ⟨by rw [List.length_append, List.map_append]; exact h1, fun p hp => ?_, fun b e => ?_, h'.bel.trans (h2.below _ h.far h'.bel.size)⟩
  · rcases List.mem_append.1 hp with hp | hp
    · obtain ⟨g2, e, ho, hg⟩ := h'.each p hp
      exact ⟨g2, e, ho.fr h2 (own_apart7 h'.row ho (by decide)), hg⟩
    · rw [List.mem_singleton] at hp; subst hp
      exact ⟨g1, hq.1, hq.2.1.fr h2 (own_apart7 h'.row hq.2.1 (by decide)), hq.2.2⟩
  · cases e
    rcases h3 with h3 | h3
    · exact h.far _ h3
    · exact Nat.le_trans h'.bel.size h3
theorem DtL.data {w wr : World} {v : Value} {L : List BG} {n : Nat} (h : DtL w wr v L) (hn : L.length = n) (hl : n ≤ 1000000) : ∃ da dc, v = .slice da n dc ∧ Data wr da (dsG L) ∧ (L = [] ∨ ∃ b off, da = some ⟨b, off, none⟩ ∧ ∀ i q, L[i]? = some q → wr.cell? ⟨b, off + i, none⟩ = some q.v) := by
  subst hn
  obtain ⟨da, dc, e, _, hp, hc⟩ := owns_slice h.row
  refine ⟨da, dc, e, ⟨by rw [dsG_len]; omega, ?_⟩, ?_⟩
  · rcases hp with hp | ⟨g, rfl⟩
    · exact .inl (List.eq_nil_of_length_eq_zero (by rw [dsG_len]; exact hp))
    · refine .inr ⟨g, 0, rfl, fun i hi => ?_⟩
      rw [dsG_len] at hi
      have hq : L[i]? = some L[i] := List.getElem?_eq_getElem hi
      obtain ⟨g2, e2, ho, _⟩ := h.each L[i] (List.getElem_mem hi)
      rw [Nat.zero_add, row_dsG hq]
      refine ⟨L[i].a, L[i].c, (hc g 0 rfl).2.1 i _ (by rw [List.getElem?_map, hq]; rfl), by rw [e2]; exact ho.bytes, fun e => by rw [e2] at e; cases e⟩
  · rcases hp with hp | ⟨g, rfl⟩
    · exact .inl (List.eq_nil_of_length_eq_zero hp)
    · exact .inr ⟨g, 0, rfl, fun i q hq => by rw [Nat.zero_add]; exact (hc g 0 rfl).2.1 i _ (by rw [List.getElem?_map, hq]; rfl)⟩
end Go.Proofs.YtflienghgobmoaaGreatDoor

namespace Go.Proofs.YtflienghgobmoaaGreatDoor
open Go.RowKit Rec
/-- what Behind answers -/
def BhP (w : World) (a : AD) (e : Ending) (w' : World) : Prop := (opE a ≠ 0 ∧ e = .returned (.tuple #[.slice none 0 0, .int .i64 (opE a)]) ∧ Below w.heap.size w w') ∨ (opE a = 0 ∧ ∃ g cap, e = .returned (.tuple #[.slice (some ⟨g, 0, none⟩) (512 * a.nb : Nat) cap, .int .i64 0]) ∧ OwnB w' g cap (behind a.full a.nb) ∧ w.heap.size ≤ g ∧ Below w.heap.size w w')
theorem take_blk (l : List Int) (i : Nat) : l.take (512 * (i + 1)) = l.take (512 * i) ++ bck l i := by
  rw [show 512 * (i + 1) = 512 * i + 512 by omega, List.take_add]; rfl
/-- the bytes so far -/
structure BhL (w2 wr : World) (v : Value) (F : List Int) (nb i : Nat) : Prop where
  row : wr.ownsRow 0 5 1 v (512 * i) (((behind F nb).take (512 * i)).map (Value.int .u8))
  far : ∀ k, v.ownBlock = some k → w2.heap.size ≤ k
  bel : Below w2.heap.size w2 wr
  wf : ∀ x, 0 ≤ nth ((behind F nb).take (512 * i)) x ∧ nth ((behind F nb).take (512 * i)) x < 256
theorem BhL.on {w2 wr w' : World} {v : Value} {F : List Int} {nb i : Nat} (h : BhL w2 wr v F nb i) (hb : Below wr.heap.size wr w') : BhL w2 w' v F nb i := ⟨owns_on h.row hb, h.far, h.bel.trans (hb.mono h.bel.size), h.wf⟩
theorem BhL.next {w2 wr wa w' : World} {v : Value} {F : List Int} {nb i g cap : Nat} {x : List Int} (h : BhL w2 wr v F nb i) (ha : Below wr.heap.size wr wa) (hx : x = bck (behind F nb) i) (hw : ∀ k, 0 ≤ nth x k ∧ nth x k < 256) (h1 : w'.ownsRow 0 5 1 (.slice (some ⟨g, 0, none⟩) (512 * i + 512) cap) (512 * i + 512) (((behind F nb).take (512 * i) ++ x).map (Value.int .u8))) (h2 : Fr (fun k => v.ownBlock = some k) wa w') (h3 : v.ownBlock = some g ∨ wa.heap.size ≤ g) : BhL w2 w' (.slice (some ⟨g, 0, none⟩) (512 * i + 512) cap) F nb (i + 1) := by
  have h' := h.on ha
  refine ⟨?_, fun b e => ?_, h'.bel.trans (h2.below _ h.far h'.bel.size), fun k => ?_⟩
  · rw [take_blk, ← hx, show 512 * (i + 1) = 512 * i + 512 by omega]; exact h1
  · cases e
    rcases h3 with h3 | h3
    · exact h.far _ h3
    · exact Nat.le_trans h'.bel.size h3
  · rw [take_blk, ← hx, nth_app]
    split
    · exact h.wf k
    · exact hw _
end Go.Proofs.YtflienghgobmoaaGreatDoor

namespace Go.Proofs.YtflienghgobmoaaGreatDoor
open Go.RowKit Rec
end Go.Proofs.YtflienghgobmoaaGreatDoor

namespace Go.Proofs.YtflienghgobmoaaGreatDoor
open Go.RowKit Rec
end Go.Proofs.YtflienghgobmoaaGreatDoor

namespace Go.Proofs.YtflienghgobmoaaGreatDoor
open Go.RowKit Rec
theorem infoBk : (Tryz.prog.info? 141).map (fun i => (i.zero, i.size, i.bytes)) = some (some (.agg #[.int .i64 0, .slice none 0 0]), 2, 32) := by kernel_rfl
/-- a block that was lent: its bytes in a row of their own, three behind -/
structure LnR where
  n : Int
  g : Nat
  c : Nat
  x : List Int
def LnR.cells (q : LnR) : List Value := [.int .i64 q.n, .slice (some ⟨q.g, 0, none⟩) q.x.length q.c]
def LnR.bg (q : LnR) : BG := ⟨q.n, some ⟨q.g, 0, none⟩, q.c, q.x⟩
theorem lnCells_len (Q : List LnR) : (Q.flatMap LnR.cells).length = Q.length * 2 := by
  induction Q with
  | nil => rfl
  | cons q Q ih => rw [List.flatMap_cons, List.length_append, ih, List.length_cons, Nat.succ_mul]; show 2 + _ = _; omega
structure LnA (w wr : World) (v : Value) (Q : List LnR) : Prop where
  row : wr.ownsRow 0 141 2 v Q.length (Q.flatMap LnR.cells)
  each : ∀ q ∈ Q, OwnB wr q.g q.c (q.x ++ [77, 78, 79]) ∧ w.heap.size ≤ q.g
  far : ∀ k, v.ownBlock = some k → w.heap.size ≤ k
  bel : Below w.heap.size w wr
theorem LnA.zero (w : World) : LnA w w (.slice none 0 0) [] := ⟨⟨rfl, .inl ⟨rfl, rfl⟩⟩, (fun q h => by cases h), (fun k h => by cases h), Below.refl _ _⟩
theorem LnA.on {w wr w' : World} {v : Value} {Q : List LnR} (h : LnA w wr v Q) (hb : Below wr.heap.size wr w') : LnA w w' v Q := ⟨owns_on h.row hb, fun q hq => ⟨(h.each q hq).1.on hb, (h.each q hq).2⟩, h.far, h.bel.trans (hb.mono h.bel.size)⟩
theorem LnA.add {w wr wa w' : World} {v : Value} {Q : List LnR} {q : LnR} {g cap k : Nat} (h : LnA w wr v Q) (hk : Q.length = k) (ha : Below wr.heap.size wr wa) (hq : OwnB wa q.g q.c (q.x ++ [77, 78, 79]) ∧ w.heap.size ≤ q.g) (h1 : w'.ownsRow 0 141 2 (.slice (some ⟨g, 0, none⟩) (k + 1) cap) (k + 1) (Q.flatMap LnR.cells ++ q.cells)) (h2 : Fr (fun k => v.ownBlock = some k) wa w') (h3 : v.ownBlock = some g ∨ wa.heap.size ≤ g) : LnA w w' (.slice (some ⟨g, 0, none⟩) (k + 1) cap) (Q ++ [q]) := by
  subst hk
  have h' := h.on ha
  refine ⟨by rw [List.length_append, List.flatMap_append]; simpa using h1, fun p hp => ?_, fun b e => ?_, h'.bel.trans (h2.below _ h.far h'.bel.size)⟩
  · rcases List.mem_append.1 hp with hp | hp
    · exact ⟨(h'.each p hp).1.fr h2 (own_apart7 h'.row (h'.each p hp).1 (by decide)), (h'.each p hp).2⟩
    · rw [List.mem_singleton] at hp; subst hp
      exact ⟨hq.1.fr h2 (own_apart7 h'.row hq.1 (by decide)), hq.2⟩
  · cases e
    rcases h3 with h3 | h3
    · exact h.far _ h3
    · exact Nat.le_trans h'.bel.size h3
/-- what lent answers -/
structure LnE (w w' : World) (g cap n : Nat) (Q : List LnR) : Prop where
  row : w'.ownsRow 0 141 2 (.slice (some ⟨g, 0, none⟩) (n + 1) cap) (n + 1) (Q.flatMap LnR.cells ++ [.int .i64 (-7), .slice none 0 0])
  len : Q.length = n
  each : ∀ q ∈ Q, OwnB w' q.g q.c (q.x ++ [77, 78, 79]) ∧ w.heap.size ≤ q.g
  far : w.heap.size ≤ g
  bel : Below w.heap.size w w'
theorem LnA.done {w wr wa w' : World} {v : Value} {Q : List LnR} {g cap k : Nat} (h : LnA w wr v Q) (hk : Q.length = k) (ha : Below wr.heap.size wr wa) (h1 : w'.ownsRow 0 141 2 (.slice (some ⟨g, 0, none⟩) (k + 1) cap) (k + 1) (Q.flatMap LnR.cells ++ [.int .i64 (-7), .slice none 0 0])) (h2 : Fr (fun k => v.ownBlock = some k) wa w') (h3 : v.ownBlock = some g ∨ wa.heap.size ≤ g) : LnE w w' g cap k Q := by
  have h' := h.on ha
  refine ⟨h1, hk, fun p hp => ⟨(h'.each p hp).1.fr h2 (own_apart7 h'.row (h'.each p hp).1 (by decide)), (h'.each p hp).2⟩, ?_, h'.bel.trans (h2.below _ h.far h'.bel.size)⟩
  rcases h3 with h3 | h3
  · exact h.far _ h3
  · exact Nat.le_trans h'.bel.size h3
end Go.Proofs.YtflienghgobmoaaGreatDoor

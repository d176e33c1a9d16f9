import Derived.Test.YtflienghgobmoaaGreatDoorKXsB
import Derived.Test.YtflienghgobmoaaGreatDoorKSpM
import Derived.Test.YtflienghgobmoaaGreatDoorKKbA
import Derived.Test.YtflienghgobmoaaGreatDoorKXsE
import Derived.Test.YtflienghgobmoaaGreatDoorKBzA
import Derived.Test.YtflienghgobmoaaGreatDoorKXsY
import Derived.Test.YtflienghgobmoaaGreatDoorKSpP
namespace Go.Proofs.YtflienghgobmoaaGreatDoor
open Go.RowKit Rec
/-- bytes in a new row that may be written to -/
structure WB (w : World) (g : Nat) (x : List Int) : Prop where
  row : ∃ (cs : Array Value) (lo hi : Nat), w.heap[g]? = some (.cells cs 5 (lo, hi)) ∧ (x.length ≤ lo ∨ hi = 0) ∧ x.length ≤ cs.size ∧ ∀ i, i < x.length → cs[i]? = some (.int .u8 (nth x i))
  len : x.length ≤ 1000000000000000
  wf : ∀ i, 0 ≤ nth x i ∧ nth x i < 256
theorem WB.cell {w : World} {g : Nat} {x : List Int} (h : WB w g x) (i : Nat) (hi : i < x.length) : w.cell? ⟨g, i, none⟩ = some (.int .u8 (nth x i)) := by
  obtain ⟨cs, lo, hi', h1, _, _, h4⟩ := h.row
  simp only [World.cell?, h1]
  exact h4 i hi
theorem WB.frozen {w : World} {g : Nat} {x : List Int} (h : WB w g x) (i : Nat) (hi : i < x.length) : w.frozen? ⟨g, i, none⟩ = false := by
  obtain ⟨cs, lo, hi', h1, h2, _, _⟩ := h.row
  simp only [World.frozen?, h1, Bool.and_eq_false_iff, decide_eq_false_iff_not]
  omega
theorem WB.bytes {w : World} {g : Nat} {x : List Int} (h : WB w g x) : Bytes w (some ⟨g, 0, none⟩) x := ⟨h.len, h.wf, .inr ⟨g, 0, rfl, fun i hi => by rw [Nat.zero_add]; exact h.cell i hi⟩⟩
theorem WB.lt {w : World} {g : Nat} {x : List Int} (h : WB w g x) : g < w.heap.size := by
  obtain ⟨cs, lo, hi', h1, _⟩ := h.row
  exact heap_lt h1
theorem WB.on {w w' : World} {g : Nat} {x : List Int} (h : WB w g x) (hb : Below w.heap.size w w') : WB w' g x := by
  obtain ⟨cs, lo, hi', h1, h2⟩ := h.row
  exact ⟨⟨cs, lo, hi', (hb.block g (heap_lt h1)).trans h1, h2⟩, h.len, h.wf⟩
theorem WB.of {w : World} {g cap : Nat} {x : List Int} (h : OwnB w g cap x) : WB w g x := by
  obtain ⟨cs, h1, h2, h3⟩ := h.row
  refine ⟨⟨cs, 0, 0, h1, .inr rfl, by rw [h2]; exact h.room, fun i hi => ?_⟩, h.len, h.wf⟩
  have := h.cell i hi
  rw [cell_of_row _ _ _ _ _ _ h1] at this
  exact this
theorem heap_setF {w : World} {g i lo hi : Nat} {cs : Array Value} {t : TypeId} {v : Value} (h : w.heap[g]? = some (.cells cs t (lo, hi))) : (w.setCell ⟨g, i, none⟩ v).heap[g]? = some (.cells (cs.setIfInBounds i v) t (lo, hi)) := by
  simp [World.setCell, Array.getElem?_modify, h]
theorem WB.set {w : World} {g : Nat} {x : List Int} (h : WB w g x) (k : Nat) (c : Int) (hk : k < x.length) (hc : 0 ≤ c ∧ c < 256) : WB (w.setCell ⟨g, k, none⟩ (.int .u8 c)) g (x.set k c) := by
  obtain ⟨cs, lo, hi', h1, h2, h3, h4⟩ := h.row
  refine ⟨⟨cs.setIfInBounds k (.int .u8 c), lo, hi', heap_setF h1, by rw [List.length_set]; exact h2, by rw [List.length_set]; simpa using h3, fun i hi => ?_⟩, by simpa using h.len, fun i => ?_⟩
  · rw [List.length_set] at hi
    rw [nth_set x k i c hk, Array.getElem?_setIfInBounds]
    by_cases e : k = i
    · subst e
      rw [if_pos rfl, if_pos (by omega), if_pos rfl]
    · rw [if_neg e, if_neg (fun e2 => e e2.symm)]
      exact h4 i hi
  · rw [nth_set x k i c hk]
    split
    · exact hc
    · exact h.wf i
/-- the bytes of a text, in a new row -/
theorem s2w (w : World) (x : List Int) (hl : x.length ≤ 1000000000000000) (hx : ∀ i, 0 ≤ nth x i ∧ nth x i < 256) : ∃ w' c, (convert 9 22 (.string (strOfNums x))).run Tryz.prog w = .ok (.slice (some ⟨w.heap.size, 0, none⟩) x.length c) w' ∧ WB w' w.heap.size x ∧ Below w.heap.size w w' := by
  have h := Lib.run_convert_string_bytes (P := Tryz.prog) w 9 22 5 (strOfNums x) Tryz.underlying9 Tryz.underlying22 Tryz.underlying5
  rw [strOfNums_size] at h
  have hsz : x.length ≤ (Lib.bytesCells w 5 (strOfNums x)).size := by
    simp only [Lib.bytesCells, Array.size_append, Array.size_map]
    have := strOfNums_size x
    have e : (strOfNums x).data.size = (strOfNums x).size := rfl
    omega
  refine ⟨_, _, h, ⟨⟨_, _, _, Lib.bytesWorld_at_new w 5 (strOfNums x), .inl hsz, hsz, fun i hi => ?_⟩, hl, hx⟩, ⟨rfl, rfl, rfl, by rw [Lib.bytesWorld_size]; omega, fun k hk => Lib.bytesWorld_at_old _ _ _ _ hk⟩⟩
  have hc := Lib.bytesWorld_cell w 5 (strOfNums x) i (by rw [strOfNums_size]; exact hi)
  have hc2 : (Lib.bytesCells w 5 (strOfNums x))[i]? = some (.int .u8 ((strOfNums x).data.toList.getD i 0).toNat) := by
    rw [← hc]
    simp only [World.cell?, Lib.bytesWorld_at_new]
    rfl
  rw [hc2, strOfNums_data]
  have h1 := hx i
  have e : (x.map fun n => UInt8.ofNat n.toNat).getD i 0 = UInt8.ofNat (nth x i).toNat := by
    unfold nth
    rw [List.getD_eq_getElem?_getD, List.getD_eq_getElem?_getD, List.getElem?_map, List.getElem?_eq_getElem hi]
    rfl
  have e2 : ((UInt8.ofNat (nth x i).toNat).toNat : Int) = nth x i := by rw [UInt8.toNat_ofNat']; omega
  rw [e, e2]
def RxQ (w : World) (E : Int) (x : List Int) (e : Ending) (w' : World) : Prop := ∃ pa n c, e = .returned (.tuple #[.slice pa n c, .int .i64 E]) ∧ x.length = n ∧ Below w.heap.size w w' ∧ (E = 0 → ∃ g, pa = some ⟨g, 0, none⟩ ∧ w.heap.size ≤ g ∧ WB w' g x)
theorem rq_none (w w' : World) (hb : Below w.heap.size w w') (E : Int) (hE : E ≠ 0) : RxQ w E [] (.returned (.tuple #[.slice none 0 0, .int .i64 E])) w' := ⟨none, 0, 0, rfl, rfl, hb, fun e => absurd e hE⟩
set_option maxRecDepth 100000 in
set_option maxHeartbeats 4000000 in
theorem rqread_any (w : World) (a : AD) (R : RDk) (j : Nat) (h : RT w a R j) (U : RTx) (hU : RTxAt w U) (hr : U.r = R.r) (i : Int) : Calls Tryz.prog 66 #[.pointer (some ⟨U.u, 0, none⟩), .int .i64 i] w (RxQ w (rxE a U i) (rxB a U i)) := by
  have HD : Hid (RT w a R j ∧ RTxAt w U) := ⟨h, hU⟩
  have c0 : w.cell? ⟨U.u, 0, none⟩ = some (.pointer (some ⟨R.r, 0, none⟩)) := by rw [hU.cell 0, ← hr]; rfl
  have c2 : w.cell? ⟨U.u, 2, none⟩ = some (.bool U.ends) := hU.cell 2
  have CB : Hid (Calls Tryz.prog 79 #[.pointer (some ⟨R.r, 0, none⟩)] w fun e w' => e = .returned (.int .i64 (a.nb : Int)) ∧ Below w.heap.size w w') := by have := rdblocks_any w R h.r; rw [← h.tie.nb] at this; exact this
  have hN := h.tie.nb
  have hnb := h.r.nb0
  rw [← hN] at hnb
  obtain ⟨E, hE⟩ : ∃ E, rxE a U i = E := ⟨_, rfl⟩
  obtain ⟨x, hx⟩ : ∃ x, rxB a U i = x := ⟨_, rfl⟩
  obtain ⟨nb, hnbe⟩ : ∃ nb, a.nb = nb := ⟨_, rfl⟩
  rw [hE, hx]
  unfold rxE at hE
  unfold rxB at hx
  rw [hnbe] at hE hx CB hnb
  clear h hU hN
  cases hen : U.ends with
  | true =>
    rw [hen] at c2
    rw [if_pos hen] at hE hx
    subst hE hx
    clear CB
    go_enter Tryz.func66, Tryz.ntmps66
    go_wp2
    go_ret2
    exact rq_none _ _ (Below.refl _ _) _ (by decide)
  | false =>
    rw [hen] at c2
    rw [if_neg (by rw [hen]; simp)] at hE hx
    by_cases hin : 0 ≤ i ∧ i < nb
    · obtain ⟨h0, h1⟩ := hin
      rw [if_pos ⟨h0, h1⟩] at hE hx
      have h0' : ¬ i < 0 := by omega
      have h1' : ¬ (nb : Int) ≤ i := by omega
      have hlp := lpN_lo U.row i U.row.length
      rcases lp_some U.row i U.row.length (Nat.le_refl _) with ⟨e1, e2⟩ | ⟨k, q, hk, e1, e3, e4, e2⟩
      · rw [e2] at hE hx
        dsimp only at hE hx
        have HC : Hid (∀ wx, Below w.heap.size w wx → wx.cell? ⟨U.u, 0, none⟩ = some (.pointer (some ⟨R.r, 0, none⟩))) := fun wx hb => by rw [(HD.out.2.on hb).cell 0, ← hr]; rfl
        cases hdn : a.down with
        | true =>
          rw [hdn] at hE hx
          subst hE hx
          go_enter Tryz.func66, Tryz.ntmps66
          go_wp2_with (first
            | (go_at_call 79; refine CB.out.mono ?_; rintro e w1 ⟨rfl, hb1⟩; have H1 : Hid (Below w.heap.size w w1) := hb1; clear CB c0 c2 hb1; have c0 := HC.out w1 H1.out)
            | (go_at_call 80; refine (r6put_any w1 U (HD.out.2.on H1.out) i).mono ?_; rintro e w2 ⟨rfl, hb2⟩; rw [e1]; have H2 : Hid (Below w.heap.size w w2) := H1.out.trans (hb2.mono H1.out.size); clear c0 hb2; have c0 := HC.out w2 H2.out)
            | (go_at_call 105; refine (rread_out w2 R (HD.out.1.on H2.out).r (by have := HD.out.1.tie.dn; rw [hdn] at this; exact this.symm) i).mono ?_; rintro e w3 ⟨rfl, rfl⟩))
          go_ret2
          exact rq_none _ _ H2.out _ (by decide)
        | false =>
          rw [hdn] at hE hx
          subst hE hx
          obtain ⟨m, rfl⟩ : ∃ m : Nat, i = (m : Int) := ⟨i.toNat, by omega⟩
          go_enter Tryz.func66, Tryz.ntmps66
          go_wp2_with (first
            | (go_at_call 79; refine CB.out.mono ?_; rintro e w1 ⟨rfl, hb1⟩; have H1 : Hid (Below w.heap.size w w1) := hb1; clear CB c0 c2 hb1; have c0 := HC.out w1 H1.out)
            | (go_at_call 80; refine (r6put_any w1 U (HD.out.2.on H1.out) m).mono ?_; rintro e w2 ⟨rfl, hb2⟩; rw [e1]; have H2 : Hid (Below w.heap.size w w2) := H1.out.trans (hb2.mono H1.out.size); clear c0 hb2; have c0 := HC.out w2 H2.out)
            | (go_at_call 105; refine ((HD.out.1.on H2.out).read hdn m (by omega)).mono ?_; rintro e w3 ⟨g, cap, rfl, hg, ho, hb3⟩; have H3 : Hid (OwnB w3 g cap (bck a.full m) ∧ Below w.heap.size w w3) := ⟨ho, H2.out.trans (hb3.mono H2.out.size)⟩; have HG : Hid (w.heap.size ≤ g) := Nat.le_trans H2.out.size hg; clear hg ho hb3))
          go_ret2
          have h512 : (bck a.full m).length = 512 := bck512 HD.out.1 hdn (by omega)
          exact ⟨_, _, _, rfl, h512, H3.out.2, fun _ => ⟨g, rfl, HG.out, WB.of H3.out.1⟩⟩
      · rw [e2] at hE hx
        dsimp only at hE hx
        subst hE hx
        obtain ⟨aa, ac, ha, hA⟩ := HD.out.2.at_
        have hl := HD.out.2.len
        obtain ⟨b, off, rfl, hcs⟩ := hA.resolve_left (by intro e; rw [e] at hk; simp at hk)
        have hq := HD.out.2.each q (List.mem_of_getElem? e3)
        have HC : Hid (∀ wx, Below w.heap.size w wx → wx.cell? ⟨U.u, 1, none⟩ = some (.slice (some ⟨b, off, none⟩) U.row.length ac) ∧ wx.cell? ⟨b, off + k * 2 + 1, none⟩ = some (.string (strOfNums q.x))) := fun wx hb => ⟨by rw [(HD.out.2.on hb).cell 1, ← ha]; rfl, (below_fr hb (fun _ => False)).cell (hcs k q e3).2 (fun e => e)⟩
        have HS : Hid (∀ wx, ∃ w' c, (convert 9 22 (.string (strOfNums q.x))).run Tryz.prog wx = .ok (.slice (some ⟨wx.heap.size, 0, none⟩) q.x.length c) w' ∧ WB w' wx.heap.size q.x ∧ Below wx.heap.size wx w') := fun wx => s2w wx q.x (by omega) hq.2.2.2
        obtain ⟨x, hxe⟩ : ∃ x, q.x = x := ⟨_, rfl⟩
        rw [hxe] at HC HS ⊢
        obtain ⟨n, hn⟩ : ∃ n, U.row.length = n := ⟨_, rfl⟩
        rw [hn] at hk hl HC e1
        have hkn : (k : Int) < (n : Int) := by omega
        clear hA ha hcs hq hxe
        go_enter Tryz.func66, Tryz.ntmps66
        go_upto_region 7 with (first
            | (go_at_call 79; refine CB.out.mono ?_; rintro e w1 ⟨rfl, hb1⟩; have H1 : Hid (Below w.heap.size w w1) := hb1; clear CB c0 c2 hb1)
            | (go_at_call 80; refine (r6put_any w1 U (HD.out.2.on H1.out) i).mono ?_; rintro e w2 ⟨rfl, hb2⟩; rw [hn, e1]; have H2 : Hid (Below w.heap.size w w2) := H1.out.trans (hb2.mono H1.out.size); clear hb2))
        obtain ⟨d1, d2⟩ := HC.out w2 H2.out
        obtain ⟨w3, c3, hcv, hB3, hb3⟩ := HS.out w2
        have H3 : Hid (WB w3 w2.heap.size x ∧ Below w.heap.size w w3) := ⟨hB3, H2.out.trans (hb3.mono H2.out.size)⟩
        clear hB3 hb3
        go_wp2
        go_ret2
        exact ⟨_, _, _, rfl, rfl, H3.out.2, fun _ => ⟨_, rfl, H2.out.size, H3.out.1⟩⟩
    · rw [if_neg hin] at hE hx
      subst hE hx
      by_cases h0 : i < 0
      · clear hin CB
        go_enter Tryz.func66, Tryz.ntmps66
        go_wp2
        go_ret2
        exact rq_none _ _ (Below.refl _ _) _ (by decide)
      · have h1 : (nb : Int) ≤ i := by omega
        clear hin
        go_enter Tryz.func66, Tryz.ntmps66
        go_wp2_with (go_at_call 79; refine CB.out.mono ?_; rintro e w1 ⟨rfl, hb1⟩; have H1 : Hid (Below w.heap.size w w1) := hb1; clear hb1)
        go_ret2
        exact rq_none _ _ H1.out _ (by decide)
end Go.Proofs.YtflienghgobmoaaGreatDoor

namespace Go.Proofs.YtflienghgobmoaaGreatDoor
open Go.RowKit Rec
/-- what the document's transaction reads -/
structure RR (w : World) (u n : Nat) (E : Nat → Int) (B : Nat → List Int) : Prop where
  lo : 128 ≤ n
  hi : n ≤ 16384
  rd : ∀ wx, Below w.heap.size w wx → ∀ i : Nat, i < n → Calls Tryz.prog 66 #[.pointer (some ⟨u, 0, none⟩), .int .i64 (i : Int)] wx (RxQ wx (E i) (B i))
  len : ∀ i, i < n → E i = 0 → (B i).length = 512
theorem RR.on {w w' : World} {u n : Nat} {E : Nat → Int} {B : Nat → List Int} (h : RR w u n E B) (hb : Below w.heap.size w w') : RR w' u n E B := ⟨h.lo, h.hi, fun wx hx => h.rd wx (hb.trans (hx.mono hb.size)), h.len⟩
theorem half_pow (x : Int) (k : Nat) : x / 2 ^ k / 2 = x / 2 ^ (k + 1) := by rw [Int.pow_succ, Int.ediv_ediv_of_nonneg (by exact Int.le_of_lt (Int.pow_pos (by decide)))]
set_option maxRecDepth 100000 in
set_option maxHeartbeats 4000000 in
theorem rbit_any (w : World) (u n : Nat) (E : Nat → Int) (B : Nat → List Int) (h : RR w u n E B) (i : Nat) (hi : i < n) :
    Calls Tryz.prog 69 #[.pointer (some ⟨u, 0, none⟩), geoV n, .int .i64 (i : Int)] w fun e w' => e = .returned (.tuple #[.bool (if E (98 + i / 4096) = 0 then bt (B (98 + i / 4096)) (i % 4096) else false), .int .i64 (E (98 + i / 4096))]) ∧ Below w.heap.size w w' := by
  have hlo := h.lo
  have hhi := h.hi
  have hA0 : 98 + i / 4096 < n := by omega
  have hln := h.len (98 + i / 4096) hA0
  have HRd : Hid (∀ wx, Below w.heap.size w wx → Calls Tryz.prog 66 #[.pointer (some ⟨u, 0, none⟩), .int .i64 ((98 + i / 4096 : Nat) : Int)] wx (RxQ wx (E (98 + i / 4096)) (B (98 + i / 4096)))) := fun wx hb => h.rd wx hb _ hA0
  have eA : (98 : Int) + (i : Int) / 4096 = ((98 + i / 4096 : Nat) : Int) := by omega
  have eQ : (i : Int) % 4096 / 8 = ((i % 4096 / 8 : Nat) : Int) := by omega
  have eK : (i : Int) % 8 = ((i % 8 : Nat) : Int) := by omega
  have hq : i % 4096 / 8 < 512 := by omega
  have hbt : bt (B (98 + i / 4096)) (i % 4096) = (nth (B (98 + i / 4096)) (i % 4096 / 8) / 2 ^ (i % 8) % 2 == 1) := by
    unfold bt bn; rw [show i % 4096 % 8 = i % 8 by omega]
  rw [hbt]
  clear hbt h hA0
  obtain ⟨A, hA⟩ : ∃ A, 98 + i / 4096 = A := ⟨_, rfl⟩
  obtain ⟨q, hqe⟩ : ∃ q, i % 4096 / 8 = q := ⟨_, rfl⟩
  obtain ⟨m, hm⟩ : ∃ m, i % 8 = m := ⟨_, rfl⟩
  rw [hA] at HRd eA hln ⊢
  rw [hqe] at eQ hq ⊢
  rw [hm] at eK ⊢
  have hm8 : m < 8 := by omega
  obtain ⟨l, hl⟩ : ∃ l, B A = l := ⟨_, rfl⟩
  obtain ⟨er, her⟩ : ∃ er, E A = er := ⟨_, rfl⟩
  rw [hl, her] at HRd hln ⊢
  have HLn : Hid (er = 0 → l.length = 512) := hln
  obtain ⟨wz, hwz⟩ : ∃ wz, w.alloc (.cells #[.int .i64 (n : Int), .int .i64 98, .int .i64 (gI n), .int .i64 (gD n), .int .i64 (gC n)] 36) = wz := ⟨_, rfl⟩
  have HZ : Hid (Below w.heap.size w wz) := by rw [← hwz]; exact (Below.refl _ _).alloc (Nat.le_refl _) _
  have z1 : wz.cell? ⟨w.heap.size, 1, none⟩ = some (.int .i64 98) := by rw [← hwz, cell_of_row _ _ _ _ _ _ (heap_alloc_new _ _)]; rfl
  clear hA hqe hm hl her hln
  go_enter Tryz.func69, Tryz.ntmps69
  unfold geoV
  go_upto_region 2 with (go_at_call 66; refine (HRd.out _ HZ.out).mono ?_; rintro e w2 ⟨pa, nn, c, rfl, h1, h2, h3⟩; have H2 : Hid (l.length = nn ∧ Below w.heap.size w w2 ∧ (er = 0 → ∃ g, pa = some ⟨g, 0, none⟩ ∧ wz.heap.size ≤ g ∧ WB w2 g l)) := ⟨h1, HZ.out.trans (h2.mono HZ.out.size), h3⟩; clear h1 h2 h3)
  by_cases he0 : er = 0
  · subst he0
    obtain ⟨h1, h2, h3⟩ := H2.out
    obtain ⟨g, rfl, hg, hW⟩ := h3 rfl
    have h512 := HLn.out rfl
    rw [h512] at h1
    subst h1
    have cq : w2.cell? ⟨g, q, none⟩ = some (.int .u8 (nth l q)) := hW.cell q (by omega)
    have hxw := hW.wf q
    have HB2 : Hid (Below w.heap.size w w2) := h2
    obtain ⟨x, hx⟩ : ∃ x, nth l q = x := ⟨_, rfl⟩
    have HXe : Hid (nth l q = x) := hx
    rw [hx] at cq hxw
    clear h2 h3 hg hW h512 hx H2 HLn HRd
    go_upto_region 6 with fail
    go_loopw [10, 11] (fun s10 s11 wr => ∃ k : Nat, s11 = .int .i64 (k : Int) ∧ k ≤ m ∧ s10 = .int .i64 (x / 2 ^ k) ∧ wr = w2) (fun _ s11 _ => m - (intOf s11).toNat)
    case atStart => exact ⟨0, rfl, Nat.zero_le _, by rw [Int.pow_zero, Int.ediv_one], rfl⟩
    case round =>
      obtain ⟨k, rfl, hk, rfl, rfl⟩ := hrel
      have hv0 : 0 ≤ x / 2 ^ k := Int.ediv_nonneg hxw.1 (Int.le_of_lt (Int.pow_pos (by decide)))
      have hv1 : x / 2 ^ k ≤ x := Int.ediv_le_self _ hxw.1
      have HV : Hid (x / 2 ^ k / 2 = x / 2 ^ (k + 1)) := half_pow x k
      by_cases hlt : k < m
      · have hlt' : (k : Int) < (m : Int) := by omega
        obtain ⟨v, hv⟩ : ∃ v, x / 2 ^ k = v := ⟨_, rfl⟩
        rw [hv] at hv0 hv1 HV ⊢
        have hv2 : v < 256 := by omega
        clear hv hk
        go_wp2
        exact ⟨⟨k + 1, by go_num, hlt, by rw [← HV.out], trivial⟩, by simp [intOf]; omega⟩
      · have hkm : k = m := by omega
        subst hkm
        have hlt' : ¬ (k : Int) < (k : Int) := by omega
        obtain ⟨v, hv⟩ : ∃ v, x / 2 ^ k = v := ⟨_, rfl⟩
        have HVe : Hid (x / 2 ^ k = v) := hv
        rw [hv] at hv0 hv1 ⊢
        clear hv HV
        go_wp2
        go_ret2
        refine ⟨?_, HB2.out⟩
        show Ending.returned (.tuple #[.bool (v % 2 == 1), .int .i64 0]) = _
        rw [HXe.out, HVe.out]
  · have he' : ((er : Int) == 0) = false := by simp; exact he0
    have HB2 : Hid (Below w.heap.size w w2) := H2.out.2.1
    have H0 : Hid (¬ er = 0) := he0
    clear he0 H2
    go_wp2
    go_ret2
    exact ⟨rfl, HB2.out⟩
end Go.Proofs.YtflienghgobmoaaGreatDoor

namespace Go.Proofs.YtflienghgobmoaaGreatDoor
open Go.RowKit Rec
/-- the document's transaction, its blocks apart from its disk's -/
structure RS (w : World) (a : AD) (R : RDk) (j : Nat) (U : RTx) (n : Nat) : Prop where
  t : RT w a R j
  x : RTxAt w U
  r : U.r = R.r
  nb : a.nb = n
  lo : 128 ≤ n
  hi : n ≤ 16384
  ap : ∀ k, U.all k → ¬ R.all k
variable {w w' w1 : World} {a : AD} {R : RDk} {j n : Nat} {U U' U1 : RTx}
theorem RS.on (h : RS w a R j U n) (hb : Below w.heap.size w w') : RS w' a R j U n := ⟨h.t.on hb, h.x.on hb, h.r, h.nb, h.lo, h.hi, h.ap⟩
theorem RS.mv (h : RS w a R j U n) (hx : RTxAt w' U') (m : UMv w U w' U') : RS w' a R j U' n :=
  ⟨h.t.fr m.fr (fun k e e2 => h.ap k e2 e), hx, m.r.trans h.r, h.nb, h.lo, h.hi, fun k e e2 => (m.al k e).elim (fun e3 => h.ap k e3 e2) (fun e3 => by have := h.t.r.lt e2; omega)⟩
theorem UMv.trans (h : UMv w U w1 U1) (h2 : UMv w1 U1 w' U') : UMv w U w' U' :=
  ⟨h.fr.trans h2.fr (fun k e => (h.al k e).elim .inl .inr), fun k e => (h2.al k e).elim (fun e2 => h.al k e2) (fun e2 => .inr (Nat.le_trans h.fr.size e2)), h2.u.trans h.u, h2.r.trans h.r⟩
theorem rx_len (h : RS w a R j U n) (i : Nat) (hi : i < n) (he : rxE a U (i : Int) = 0) : (rxB a U (i : Int)).length = 512 := by
  have hin : (0 : Int) ≤ (i : Int) ∧ (i : Int) < a.nb := by rw [h.nb]; omega
  unfold rxE at he
  unfold rxB
  cases hen : U.ends with
  | true => rw [if_pos hen] at he; exact absurd he (by decide)
  | false =>
    rw [if_neg (by rw [hen]; simp), if_pos hin] at he
    rw [if_neg (by simp), if_pos hin]
    rcases lp_some U.row (i : Int) U.row.length (Nat.le_refl _) with ⟨_, e2⟩ | ⟨k, q, _, _, hq, _, e2⟩
    · rw [e2] at he ⊢
      dsimp only at he ⊢
      cases hd : a.down with
      | true => rw [hd] at he; exact absurd he (by decide)
      | false =>
        rw [if_neg (by simp), Int.toNat_natCast]
        exact bck512 h.t hd (by rw [h.nb]; exact hi)
    · rw [e2]
      exact (h.x.each q (List.mem_of_getElem? hq)).2.2.1
theorem RS.rr (h : RS w a R j U n) : RR w U.u n (fun i => rxE a U (i : Int)) (fun i => rxB a U (i : Int)) :=
  ⟨h.lo, h.hi, fun wx hb i _ => rqread_any wx a R j (h.on hb).t U (h.on hb).x h.r i, fun i hi he => rx_len h i hi he⟩
/-- behind a put -/
def RwP (w : World) (U : RTx) (E : Int) (row' : List Dn) (e : Ending) (w' : World) : Prop := e = .returned (.int .i64 E) ∧ ∃ U', RTxAt w' U' ∧ UMv w U w' U' ∧ U'.ends = U.ends ∧ U'.row = if E = 0 then row' else U.row
theorem xor_u8 (x : Int) (k : Nat) (hx : 0 ≤ x ∧ x < 256) (hk : k < 8) : bits .xor .u8 x (2 ^ k) = byt x k (!(x / 2 ^ k % 2 == 1)) := by
  have H : ∀ k, k < 8 → ∀ x, x < 256 → bits .xor .u8 ((x : Nat) : Int) (2 ^ k) = byt (x : Nat) k (!(((x : Nat) : Int) / 2 ^ k % 2 == 1)) := by decide +kernel
  obtain ⟨n, rfl⟩ := Int.eq_ofNat_of_zero_le hx.1
  exact H k hk n (by omega)
theorem byt_wf (x : Int) (k : Nat) (on : Bool) (hx : 0 ≤ x ∧ x < 256) (hk : k < 8) : 0 ≤ byt x k on ∧ byt x k on < 256 := by
  have H : ∀ k, k < 8 → ∀ x, x < 256 → (0 ≤ byt ((x : Nat) : Int) k true ∧ byt ((x : Nat) : Int) k true < 256) ∧ (0 ≤ byt ((x : Nat) : Int) k false ∧ byt ((x : Nat) : Int) k false < 256) := by decide +kernel
  obtain ⟨n, rfl⟩ := Int.eq_ofNat_of_zero_le hx.1
  have := H k hk n (by omega)
  cases on
  · exact this.2
  · exact this.1
theorem xor_put (l : List Int) (hl : ∀ i, 0 ≤ nth l i ∧ nth l i < 256) (i : Nat) : bput l (i % 4096) (!bt l (i % 4096)) = l.set (i % 4096 / 8) (bits .xor .u8 (nth l (i % 4096 / 8)) (2 ^ (i % 8))) := by
  have e8 : i % 4096 % 8 = i % 8 := by omega
  rw [xor_u8 _ _ (hl _) (by omega)]
  unfold bput bt bn
  rw [e8]
set_option maxRecDepth 100000 in
set_option maxHeartbeats 4000000 in
theorem rset_any (h : RS w a R j U n) (hl : U.row.length + 1 ≤ 4000000) (i : Nat) (hi : i < n) (hE : rxE a U ((98 + i / 4096 : Nat) : Int) = 0) :
    Calls Tryz.prog 70 #[.pointer (some ⟨U.u, 0, none⟩), geoV n, .int .i64 (i : Int)] w (RwP w U (rwE U n ((98 + i / 4096 : Nat) : Int) 512) (U.row ++ [⟨((98 + i / 4096 : Nat) : Int), bput (rxB a U ((98 + i / 4096 : Nat) : Int)) (i % 4096) (!bt (rxB a U ((98 + i / 4096 : Nat) : Int)) (i % 4096))⟩])) := by
  have hlo := h.lo
  have hhi := h.hi
  have hA0 : 98 + i / 4096 < n := by omega
  have hln := rx_len h (98 + i / 4096) hA0 hE
  have HS : Hid (RS w a R j U n) := h
  have HRd : Hid (∀ wx, Below w.heap.size w wx → Calls Tryz.prog 66 #[.pointer (some ⟨U.u, 0, none⟩), .int .i64 ((98 + i / 4096 : Nat) : Int)] wx (RxQ wx 0 (rxB a U ((98 + i / 4096 : Nat) : Int)))) := fun wx hb => by
    have := h.rr.rd wx hb _ hA0
    rw [hE] at this; exact this
  have eA : (98 : Int) + (i : Int) / 4096 = ((98 + i / 4096 : Nat) : Int) := by omega
  have eQ : (i : Int) % 4096 / 8 = ((i % 4096 / 8 : Nat) : Int) := by omega
  have eK : (i : Int) % 8 = ((i % 8 : Nat) : Int) := by omega
  have hq : i % 4096 / 8 < 512 := by omega
  clear h hA0 hE
  have HXp : Hid (∀ l : List Int, (∀ i, 0 ≤ nth l i ∧ nth l i < 256) → bput l (i % 4096) (!bt l (i % 4096)) = l.set (i % 4096 / 8) (bits .xor .u8 (nth l (i % 4096 / 8)) (2 ^ (i % 8)))) := fun l hl => xor_put l hl i
  obtain ⟨A, hA⟩ : ∃ A, 98 + i / 4096 = A := ⟨_, rfl⟩
  obtain ⟨q, hqe⟩ : ∃ q, i % 4096 / 8 = q := ⟨_, rfl⟩
  obtain ⟨m, hm⟩ : ∃ m, i % 8 = m := ⟨_, rfl⟩
  rw [hA] at HRd eA hln ⊢
  rw [hqe] at eQ hq HXp
  rw [hm] at eK HXp
  have hm8 : m < 8 := by omega
  have HA1 : Hid (98 ≤ A ∧ A < n) := ⟨by omega, by omega⟩
  obtain ⟨l, hl2⟩ : ∃ l, rxB a U (A : Int) = l := ⟨_, rfl⟩
  rw [hl2] at HRd hln ⊢
  have HLn : Hid (l.length = 512) := hln
  obtain ⟨wz, hwz⟩ : ∃ wz, w.alloc (.cells #[.int .i64 (n : Int), .int .i64 98, .int .i64 (gI n), .int .i64 (gD n), .int .i64 (gC n)] 36) = wz := ⟨_, rfl⟩
  have HZ : Hid (Below w.heap.size w wz) := by rw [← hwz]; exact (Below.refl _ _).alloc (Nat.le_refl _) _
  have HZr : Hid (wz.heap[w.heap.size]? = some (.cells #[.int .i64 (n : Int), .int .i64 98, .int .i64 (gI n), .int .i64 (gD n), .int .i64 (gC n)] 36 (0, 0))) := by rw [← hwz]; exact heap_alloc_new _ _
  have z1 : wz.cell? ⟨w.heap.size, 1, none⟩ = some (.int .i64 98) := by rw [cell_of_row _ _ _ _ _ _ HZr.out]; rfl
  clear hA hqe hm hl2 hln
  go_enter Tryz.func70, Tryz.ntmps70
  unfold geoV
  go_upto_region 2 with (go_at_call 66; refine (HRd.out _ HZ.out).mono ?_; rintro e w2 ⟨pa, nn, c, rfl, h1, h2, h3⟩; have H2 : Hid (l.length = nn ∧ Below wz.heap.size wz w2 ∧ ∃ g, pa = some ⟨g, 0, none⟩ ∧ wz.heap.size ≤ g ∧ WB w2 g l) := ⟨h1, h2, h3 rfl⟩; clear h1 h2 h3)
  obtain ⟨h1, hb2, g, rfl, hg, hW⟩ := H2.out
  rw [HLn.out] at h1
  subst h1
  have cq : w2.cell? ⟨g, q, none⟩ = some (.int .u8 (nth l q)) := hW.cell q (by rw [HLn.out]; omega)
  have fq : w2.frozen? ⟨g, q, none⟩ = false := hW.frozen q (by rw [HLn.out]; omega)
  have hxw := hW.wf q
  have zb : w2.cell? ⟨w.heap.size, 1, none⟩ = some (.int .i64 98) := (hb2.cell (heap_lt HZr.out)).trans z1
  have hgz : g ≠ w.heap.size := by have := heap_lt HZr.out; omega
  obtain ⟨x, hx⟩ : ∃ x, nth l q = x := ⟨_, rfl⟩
  have HXe : Hid (nth l q = x) := hx
  rw [hx] at cq hxw
  have HW2 : Hid (WB w2 g l ∧ Below w.heap.size w w2 ∧ w.heap.size < g ∧ 512 = l.length) := ⟨hW, HZ.out.trans (hb2.mono HZ.out.size), by have := heap_lt HZr.out; omega, HLn.out.symm⟩
  clear hb2 hg hW hx H2 z1 HRd
  go_upto_region 6 with fail
  go_loopw [9, 10] (fun s9 s10 wr => ∃ k : Nat, s10 = .int .i64 (k : Int) ∧ k ≤ m ∧ s9 = .int .u8 (2 ^ k) ∧ wr = w2) (fun _ s10 _ => m - (intOf s10).toNat)
  case atStart => exact ⟨0, rfl, Nat.zero_le _, rfl, rfl⟩
  case round =>
    obtain ⟨k, rfl, hk, rfl, rfl⟩ := hrel
    have hp0 : 1 ≤ (2 : Int) ^ k ∧ (2 : Int) ^ k ≤ 128 := by
      have H : ∀ k, k < 8 → 1 ≤ (2 : Int) ^ k ∧ (2 : Int) ^ k ≤ 128 := by decide
      exact H k (by omega)
    by_cases hlt : k < m
    · have hlt' : (k : Int) < (m : Int) := by omega
      have hp1 : (2 : Int) ^ k ≤ 64 := by
        have H : ∀ k, k < 7 → (2 : Int) ^ k ≤ 64 := by decide
        exact H k (by omega)
      have HV : Hid ((2 : Int) ^ k * 2 = 2 ^ (k + 1)) := (Int.pow_succ 2 k).symm
      obtain ⟨v, hv⟩ : ∃ v, (2 : Int) ^ k = v := ⟨_, rfl⟩
      rw [hv] at hp0 hp1 HV ⊢
      clear hv hk
      go_wp2
      exact ⟨⟨k + 1, by go_num, hlt, by rw [← HV.out], trivial⟩, by simp [intOf]; omega⟩
    · have hkm : k = m := by omega
      subst hkm
      have hlt' : ¬ (k : Int) < (k : Int) := by omega
      obtain ⟨v, hv⟩ : ∃ v, (2 : Int) ^ k = v := ⟨_, rfl⟩
      have HVe : Hid ((2 : Int) ^ k = v) := hv
      rw [hv] at hp0 ⊢
      have HCw : Hid (0 ≤ bits .xor .u8 x v ∧ bits .xor .u8 x v < 256) := by
        rw [← hv]; show _ ∧ _
        rw [xor_u8 x k hxw hm8]; exact byt_wf _ _ _ hxw hm8
      clear hv
      go_upto_region 10 with fail
      obtain ⟨y, hy⟩ : ∃ y, bits .xor .u8 x v = y := ⟨_, rfl⟩
      have HY : Hid (bits .xor .u8 x v = y) := hy
      rw [hy]
      rw [hy] at HCw
      obtain ⟨w3, hw3⟩ : ∃ w3, wr.setCell ⟨g, q, none⟩ (.int .u8 y) = w3 := ⟨_, rfl⟩
      have H3 : Hid (WB w3 g (l.set q y) ∧ Below w.heap.size w w3 ∧ w3.cell? ⟨w.heap.size, 1, none⟩ = some (.int .i64 98)) := by
        have f : Fr (fun k => k = g) wr (wr.setCell ⟨g, q, none⟩ (.int .u8 y)) := Fr.set
        rw [← hw3]
        exact ⟨HW2.out.1.set q y (by rw [HLn.out]; omega) HCw.out, HW2.out.2.1.trans (f.below _ (fun k e => by have e : k = g := e; have := HW2.out.2.2.1; omega) HW2.out.2.1.size), f.cell zb (fun e => by have e : w.heap.size = g := e; exact hgz e.symm)⟩
      rw [hw3]
      have z3 := H3.out.2.2
      have HWr : Hid (Calls Tryz.prog 36 #[.pointer (some ⟨U.u, 0, none⟩), .int .i64 (A : Int), .slice (some ⟨g, 0, none⟩) 512 c] w3 (RwP w3 U (rwE U n (A : Int) 512) (U.row ++ [⟨(A : Int), l.set q y⟩]))) := by
        have hs := HS.out.on H3.out.2.1
        have := rxwrite_any w3 a R j hs.t U hs.x hs.r hl (A : Int) (some ⟨g, 0, none⟩) 512 c (l.set q y) H3.out.1.bytes (by rw [List.length_set, HLn.out]) (by omega)
        rw [hs.nb] at this
        exact this
      clear hy hw3 zb cq fq
      go_wp2_with (go_at_call 36; refine HWr.out.mono ?_; rintro e w4 ⟨rfl, U', h1, h2, h3, h4⟩; have H4 : Hid (RTxAt w4 U' ∧ UMv w3 U w4 U' ∧ U'.ends = U.ends ∧ U'.row = if rwE U n (A : Int) 512 = 0 then U.row ++ [⟨(A : Int), l.set q y⟩] else U.row) := ⟨h1, h2, h3, h4⟩; clear h1 h2 h3 h4)
      go_ret
      refine ⟨rfl, U', H4.out.1, (UMv.on H3.out.2.1).trans H4.out.2.1, H4.out.2.2.1, ?_⟩
      rw [HXp.out l HW2.out.1.wf, HXe.out, HVe.out, HY.out]
      exact H4.out.2.2.2
end Go.Proofs.YtflienghgobmoaaGreatDoor

namespace Go.Proofs.YtflienghgobmoaaGreatDoor
open Go.RowKit Rec
variable {w0 w w1 wx w2 w' : World} {P j j' : Nat} {D D' : Dk} {R R' : RDk} {T T' : Tx} {U U' : RTx} {K K' : Kb}
theorem nth_bck_wf (l : List Int) (b : Nat) (h : ∀ i, 0 ≤ nth l i ∧ nth l i < 256) (i : Nat) : 0 ≤ nth (bck l b) i ∧ nth (bck l b) i < 256 := by
  by_cases hi : i < 512
  · rw [nth_bck _ _ _ hi]; exact h _
  · have : nth (bck l b) i = 0 := by
      unfold nth bck
      rw [List.getD_eq_getElem?_getD, List.getElem?_eq_none (by rw [List.length_take]; omega)]
      rfl
    rw [this]; decide
/-- the program's side as a session on a disk with a bitmap -/
theorem XS.spc (h : XS w0 w P D R T U K j) (he : U.ends = false) (hn : D.nb = K.n) : Spc w0 w D T K.n := by
  obtain ⟨hx, hd, hnb, hu⟩ := h.tp.live he
  have hne : ∀ k, T.all k → ¬ D.all k := fun k e e2 => h.sep.ne (i := 2) (j := 0) (by omega) e e2
  have hf : D.full = D.las := by rw [abs_full, h.rs.full]; rfl
  refine ⟨⟨⟨h.ws.d, fun k e => h.far 0 k e, h.ws.be⟩, hx, hd, hnb, fun k e e2 => hne k e (.inl e2), fun k e e2 => hne k (.inl e) e2, fun k e => h.far 2 k e⟩, hnb ▸ hn, h.bk.lo, h.bk.hi, fun i hi => ?_⟩
  unfold tv
  cases hc : T.c i with
  | some q =>
    have hb := hx.blk i q hc
    exact ⟨hb.len, hb.bytes.wf⟩
  | none =>
    rw [hf]
    exact ⟨bck_length _ _ D.nb h.ws.d.lasl (by omega), nth_bck_wf _ _ h.ws.d.las.wf⟩
/-- .. and the document's -/
theorem XS.rs9 (h : XS w0 w P D R T U K j) (hn : D.nb = K.n) : RS w D.abs R (200 * j) U K.n :=
  ⟨h.ws.t, h.ux, h.ur, hn, h.bk.lo, h.bk.hi, fun k e e2 => h.sep.ne (i := 3) (j := 1) (by omega) e e2⟩
/-- both read the same -/
theorem XS.rd (h : XS w0 w P D R T U K j) (he : U.ends = false) (hn : D.nb = K.n) (i : Nat) (hi : i < K.n) : (rdb D T i → rxE D.abs U (i : Int) = 0 ∧ rxB D.abs U (i : Int) = tv D T i) ∧ (¬ rdb D T i → rxE D.abs U (i : Int) = 30) := by
  obtain ⟨hx, hd, hnb, hu⟩ := h.tp.live he
  obtain ⟨e1, e2⟩ := hu.read (a := D.abs) hnb.symm he (i : Int)
  have hf : D.full = D.abs.full := abs_full D
  have hdn : D.abs.down = D.down := rfl
  have hin : (0 : Int) ≤ (i : Int) ∧ (i : Int) < (T.nb : Int) := by rw [← hnb, hn]; omega
  rw [← e1, ← e2]
  unfold tvE tvX tv
  rw [if_pos hin, if_pos hin, Int.toNat_natCast, hdn, hf]
  refine ⟨fun hr => ?_, fun hr => ?_⟩
  · cases hc : T.c i with
    | some q => exact ⟨rfl, rfl⟩
    | none =>
      have hd0 : D.down = false := hr.resolve_right (by rw [hc]; simp)
      rw [hd0]; exact ⟨rfl, rfl⟩
  · have hd1 : D.down = true := by cases e : D.down with | true => rfl | false => exact absurd (.inl e) hr
    cases hc : T.c i with
    | some q => exact absurd (.inr (by rw [hc]; rfl)) hr
    | none => rw [hd1]; rfl
end Go.Proofs.YtflienghgobmoaaGreatDoor

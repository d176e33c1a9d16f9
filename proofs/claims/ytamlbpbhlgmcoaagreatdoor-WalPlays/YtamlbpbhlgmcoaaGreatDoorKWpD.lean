import Derived.Test.YtamlbpbhlgmcoaaGreatDoorKWpA
import Derived.Test.YtamlbpbhlgmcoaaGreatDoorKWCt
import Derived.Test.YtamlbpbhlgmcoaaGreatDoorKRef5
namespace Go.Proofs.YtamlbpbhlgmcoaaGreatDoor
open Go.RowKit Rec
/-- a block that is handed in, its bytes anywhere, of any number -/
structure BG where
  n : Int
  a : Option Addr
  c : Nat
  x : List Int
def BG.v (q : BG) : Value := .slice q.a q.x.length q.c
def nsG (L : List BG) : List Int := L.map BG.n
def dsG (L : List BG) : List (List Int) := L.map BG.x
structure BGs (w : World) (a0 : Option Addr) (L : List BG) : Prop where
  at_ : L = [] ∨ ∃ b off, a0 = some ⟨b, off, none⟩ ∧ ∀ i q, L[i]? = some q → w.cell? ⟨b, off + i * 2, none⟩ = some (.int .i64 q.n) ∧ w.cell? ⟨b, off + i * 2 + 1, none⟩ = some q.v
  each : ∀ q ∈ L, Bytes w q.a q.x ∧ (q.a = none → q.c = 0)
theorem bytes_frE {S : Nat → Prop} {w w' : World} {a : Option Addr} {l : List Int} (h : Bytes w a l) (x : Fr S w w') (hk : l ≠ [] → ∀ p, a = some p → ¬ S p.block) : Bytes w' a l := by
  refine ⟨h.len, h.wf, ?_⟩
  rcases h.at_ with e | ⟨b, off, e, hc⟩
  · exact .inl e
  · exact .inr ⟨b, off, e, fun i hi => x.cell (hc i hi) (show ¬ S b from hk (fun e2 => by rw [e2] at hi; simp at hi) ⟨b, off, none⟩ e)⟩
theorem bytes_ltB {w : World} {p : Addr} {l : List Int} (h : Bytes w (some p) l) (hl : l ≠ []) : p.block < w.heap.size := by
  rcases h.at_ with e | ⟨b, off, e, hc⟩
  · exact absurd e hl
  · cases e
    cases hh : l with
    | nil => exact absurd hh hl
    | cons x xs => exact block_lt_of_cell (hc 0 (by rw [hh]; simp))
theorem BGs.on {w w' : World} {a0 : Option Addr} {L : List BG} (h : BGs w a0 L) (hb : Below w.heap.size w w') : BGs w' a0 L := by
  refine ⟨?_, fun q hq => ⟨(h.each q hq).1.on hb, (h.each q hq).2⟩⟩
  rcases h.at_ with e | ⟨b, off, e, hc⟩
  · exact .inl e
  · exact .inr ⟨b, off, e, fun i q hq => ⟨(below_fr hb (fun _ => False)).cell (hc i q hq).1 (fun e => e), (below_fr hb (fun _ => False)).cell (hc i q hq).2 (fun e => e)⟩⟩
theorem nsG_len (L : List BG) : (nsG L).length = L.length := by simp [nsG]
theorem dsG_len (L : List BG) : (dsG L).length = L.length := by simp [dsG]
theorem nth_nsG {L : List BG} {i : Nat} {q : BG} (h : L[i]? = some q) : nth (nsG L) i = q.n := by
  unfold nth nsG; rw [List.getD, List.getElem?_map, h]; rfl
theorem row_dsG {L : List BG} {i : Nat} {q : BG} (h : L[i]? = some q) : row (dsG L) i = q.x := by
  unfold row dsG; rw [List.getD, List.getElem?_map, h]; rfl
/-- numbers and bytes apart, in rows of one's own -/
structure SpG (w0 wr : World) (L : List BG) (j : Nat) (s2 s3 : Value) : Prop where
  nums : wr.ownsRow 0 3 1 s2 j ((nsG (L.take j)).map (Value.int .i64))
  rows : wr.ownsRow 0 37 1 s3 j ((L.take j).map BG.v)
  far2 : ∀ k, s2.ownBlock = some k → w0.heap.size ≤ k
  far3 : ∀ k, s3.ownBlock = some k → w0.heap.size ≤ k
  bel : Below w0.heap.size w0 wr
theorem SpG.on {w0 wr w' : World} {L : List BG} {j : Nat} {s2 s3 : Value} (h : SpG w0 wr L j s2 s3) (hb : Below wr.heap.size wr w') : SpG w0 w' L j s2 s3 :=
  ⟨owns_on h.nums hb, owns_on h.rows hb, h.far2, h.far3, h.bel.trans (hb.mono h.bel.size)⟩
theorem SpG.start {w0 wr : World} {L : List BG} (hb : Below w0.heap.size w0 wr) : SpG w0 wr L 0 (.slice none 0 0) (.slice none 0 0) :=
  ⟨⟨rfl, .inl ⟨rfl, rfl⟩⟩, ⟨rfl, .inl ⟨rfl, rfl⟩⟩, (fun k h => by cases h), (fun k h => by cases h), hb⟩
structure SpM (w0 wr : World) (L : List BG) (j : Nat) (s2 s3 : Value) : Prop where
  nums : wr.ownsRow 0 3 1 s2 (j + 1) ((nsG (L.take (j + 1))).map (Value.int .i64))
  rows : wr.ownsRow 0 37 1 s3 j ((L.take j).map BG.v)
  far2 : ∀ k, s2.ownBlock = some k → w0.heap.size ≤ k
  far3 : ∀ k, s3.ownBlock = some k → w0.heap.size ≤ k
  bel : Below w0.heap.size w0 wr
theorem SpM.on {w0 wr w' : World} {L : List BG} {j : Nat} {s2 s3 : Value} (h : SpM w0 wr L j s2 s3) (hb : Below wr.heap.size wr w') : SpM w0 w' L j s2 s3 :=
  ⟨owns_on h.nums hb, owns_on h.rows hb, h.far2, h.far3, h.bel.trans (hb.mono h.bel.size)⟩
theorem take_bg {L : List BG} {j : Nat} {q : BG} (hq : L[j]? = some q) : L.take (j + 1) = L.take j ++ [q] := by rw [List.take_add_one, hq]; rfl
theorem SpG.mid {w0 wr wa w' : World} {L : List BG} {j g cap : Nat} {s2 s3 : Value} {q : BG} (h : SpG w0 wr L j s2 s3) (hq : L[j]? = some q) (ha : Below wr.heap.size wr wa) (ho : w'.ownsRow 0 3 1 (.slice (some ⟨g, 0, none⟩) (j + 1) cap) (j + 1) ((nsG (L.take j)).map (Value.int .i64) ++ [.int .i64 q.n])) (hf : Fr (fun k => s2.ownBlock = some k) wa w') (hg : s2.ownBlock = some g ∨ wa.heap.size ≤ g) :
    SpM w0 w' L j (.slice (some ⟨g, 0, none⟩) (j + 1) cap) s3 := by
  have h' := h.on ha
  refine ⟨?_, owns_fr h'.rows hf (fun k hk => own_apart h'.rows h'.nums (by decide) k hk), fun k hk => ?_, h.far3, h'.bel.trans (hf.below _ h.far2 h'.bel.size)⟩
  · rw [take_bg hq]; unfold nsG at ho ⊢; simpa using ho
  · cases hk
    rcases hg with e | e
    · exact h.far2 _ e
    · exact Nat.le_trans h'.bel.size e
theorem SpM.next {w0 wr wa w' : World} {L : List BG} {j g cap : Nat} {s2 s3 : Value} {q : BG} (h : SpM w0 wr L j s2 s3) (hq : L[j]? = some q) (ha : Below wr.heap.size wr wa) (ho : w'.ownsRow 0 37 1 (.slice (some ⟨g, 0, none⟩) (j + 1) cap) (j + 1) ((L.take j).map BG.v ++ [.slice q.a q.x.length q.c])) (hf : Fr (fun k => s3.ownBlock = some k) wa w') (hg : s3.ownBlock = some g ∨ wa.heap.size ≤ g) :
    SpG w0 w' L (j + 1) s2 (.slice (some ⟨g, 0, none⟩) (j + 1) cap) := by
  have h' := h.on ha
  refine ⟨owns_fr h'.nums hf (fun k hk => own_apart h'.nums h'.rows (by decide) k hk), ?_, h.far2, fun k hk => ?_, h'.bel.trans (hf.below _ h.far3 h'.bel.size)⟩
  · rw [take_bg hq, List.map_append]; exact ho
  · cases hk
    rcases hg with e | e
    · exact h.far3 _ e
    · exact Nat.le_trans h'.bel.size e
/-- as the lists that the header's calls want -/
theorem SpG.lists {w0 wr : World} {L : List BG} {n : Nat} {s2 s3 : Value} {a0 : Option Addr} (h : SpG w0 wr L n s2 s3) (hL : BGs w0 a0 L) (hn : L.length = n) (hl : n ≤ 1000000000000000) : ∃ a nc da dc, s2 = .slice a n nc ∧ s3 = .slice da n dc ∧ n ≤ nc ∧ n ≤ dc ∧ (n = 0 ∨ (∃ g, a = some ⟨g, 0, none⟩) ∧ ∃ g, da = some ⟨g, 0, none⟩) ∧ Ints wr a (nsG L) ∧ Data wr da (dsG L) := by
  have ht : L.take n = L := by rw [← hn]; exact List.take_length
  have h1 := h.nums
  have h2 := h.rows
  rw [ht] at h1 h2
  obtain ⟨a, nc, e1, k1, g1, q1⟩ := owns_slice h1
  obtain ⟨da, dc, e2, k2, g2, q2⟩ := owns_slice h2
  refine ⟨a, nc, da, dc, e1, e2, k1, k2, ?_, ⟨by rw [nsG_len]; omega, ?_⟩, ⟨by rw [dsG_len]; omega, ?_⟩⟩
  · rcases g1 with g1 | g1
    · exact .inl g1
    · rcases g2 with g2 | g2
      · exact .inl g2
      · exact .inr ⟨g1, g2⟩
  · rcases g1 with g1 | ⟨g, g1⟩
    · exact .inl (List.eq_nil_of_length_eq_zero (by rw [nsG_len]; omega))
    · refine .inr ⟨g, 0, g1, fun i hi => ?_⟩
      rw [nsG_len] at hi
      obtain ⟨q, hq⟩ : ∃ q, L[i]? = some q := ⟨_, List.getElem?_eq_getElem hi⟩
      rw [Nat.zero_add, nth_nsG hq]
      exact (q1 g 0 g1).2.1 i _ (by rw [List.getElem?_map]; unfold nsG; rw [List.getElem?_map, hq]; rfl)
  · rcases g2 with g2 | ⟨g, g2⟩
    · exact .inl (List.eq_nil_of_length_eq_zero (by rw [dsG_len]; omega))
    · refine .inr ⟨g, 0, g2, fun i hi => ?_⟩
      rw [dsG_len] at hi
      obtain ⟨q, hq⟩ : ∃ q, L[i]? = some q := ⟨_, List.getElem?_eq_getElem hi⟩
      have hm := hL.each q (List.mem_of_getElem? hq)
      rw [Nat.zero_add, row_dsG hq]
      exact ⟨q.a, q.c, (q2 g 0 g2).2.1 i _ (by rw [List.getElem?_map, hq]; rfl), hm.1.on h.bel, hm.2⟩
/-- what is wrong with blocks, as the document asks -/
def ftE (ns : List Int) (ds : List (List Int)) (n : Int) : Int := if rmay ns n = true then (if ∀ b, b ∈ ds → b.length = 512 then 0 else 32) else 40
theorem ftE_ok {ns : List Int} {ds : List (List Int)} {nb : Nat} (h : ftE ns ds nb = 0) (hl : ds.length = ns.length) (hnb : nb ≤ 16384) : ComOk nb ns ds := by
  unfold ftE at h
  by_cases c : rmay ns nb = true
  · rw [if_pos c] at h
    by_cases c2 : ∀ b, b ∈ ds → b.length = 512
    · have hs := (rmay_split ns nb).1 c
      have hm := of_decide_eq_true hs.2
      have h0 := hm 0 (by omega)
      have hp : pre ns 0 = 97 := rfl
      exact ⟨by omega, hnb, hs.2, hs.1.1, hs.1.2, hl, c2⟩
    · rw [if_neg c2] at h; cases h
  · rw [if_neg c] at h; cases h
end Go.Proofs.YtamlbpbhlgmcoaaGreatDoor

namespace Go.Proofs.YtamlbpbhlgmcoaaGreatDoor
open Go.RowKit Rec
theorem infoNi : (Tryz.prog.info? 3).map (fun i => (i.zero, i.size, i.bytes)) = some (some (.int .i64 0), 1, 8) := by kernel_rfl
theorem infoSy : (Tryz.prog.info? 37).map (fun i => (i.zero, i.size, i.bytes)) = some (some (.slice none 0 0), 1, 24) := by kernel_rfl
set_option maxRecDepth 100000 in
set_option maxHeartbeats 4000000 in
theorem split_any (w : World) (a0 : Option Addr) (n c : Nat) (L : List BG) (hL : BGs w a0 L) (hn : L.length = n) (hl : n ≤ 4398046511104) :
    Calls Tryz.prog 88 #[.slice a0 n c] w fun e w' => ∃ s2 s3, e = .returned (.tuple #[s2, s3]) ∧ SpG w w' L n s2 s3 := by
  have HL : Hid (BGs w a0 L ∧ L.length = n) := ⟨hL, hn⟩
  clear hL hn
  obtain ⟨i1, j1, j2, j3, j4⟩ := info_parts infoNi
  obtain ⟨i2, k1, k2, k3, k4⟩ := info_parts infoSy
  go_enter Tryz.func88, Tryz.ntmps88
  go_wp2
  go_loopw [4, 5, 6] (fun s4 s5 s6 wr => ∃ j : Nat, j ≤ n ∧ s6 = .int .i64 j ∧ SpG w wr L j s4 s5) (fun _ _ s6 _ => n - (intOf s6).toNat)
  case atStart => exact ⟨0, Nat.zero_le _, rfl, SpG.start (Below.refl _ _)⟩
  case round =>
    obtain ⟨j, hj, rfl, hA⟩ := hrel
    have HA : Hid (SpG w wr L j u4 u5) := hA
    clear hA
    by_cases hlt : j < n
    · have hjl : j < L.length := by rw [HL.out.2]; exact hlt
      obtain ⟨q, hq⟩ : ∃ q, L[j]? = some q := ⟨_, List.getElem?_eq_getElem hjl⟩
      obtain ⟨b, off, rfl, hc⟩ := (HL.out.1.on HA.out.bel).at_.resolve_left (by intro e; rw [e] at hjl; simp at hjl)
      obtain ⟨c1, c2⟩ := hc j q hq
      replace c2 : wr.cell? ⟨b, off + j * 2 + 1, none⟩ = some (.slice q.a q.x.length q.c) := c2
      have HQ : Hid (L[j]? = some q) := hq
      clear hc hq hjl
      obtain ⟨qn, hqn⟩ : ∃ qn, q.n = qn := ⟨_, rfl⟩
      rw [hqn] at c1
      have HN : Hid (q.n = qn) := hqn
      clear hqn
      have ha : Below wr.heap.size wr (wr.alloc (.cells #[.int .i64 qn] 3)) := (Below.refl _ _).alloc (Nat.le_refl _) _
      go_upto_region 7 with (at_builtin; refine wp_own rfl (.tmp 13) (.tmp 19) 75 rfl 3 i1 _ 1 8 Tryz.underlying75 j1 j2 j3 j4 rfl (by decide) u4 j ((nsG (L.take j)).map (Value.int .i64)) rfl (owns_fr HA.out.nums (below_fr ha (fun _ => False)) (fun _ _ e => e)) ⟨wr.heap.size, 0, none⟩ 1 1 [.int .i64 qn] rfl (by decide) rfl (news_of (heap_alloc_new wr _) _ rfl) (by intro u hu; simp at hu; subst hu; rfl) (by unfold maxLen; omega) (by omega) ?_
                             intro g cap w1 h1 h2 h3
                             go_frame
                             have HM : Hid (SpM w w1 L j (.slice (some ⟨g, 0, none⟩) (j + 1) cap) u5) := HA.out.mid HQ.out ha (by rw [HN.out]; exact h1) h2 h3
                             clear h1 h2 h3)
      obtain ⟨b', off', e', hc'⟩ := (HL.out.1.on HM.out.bel).at_.resolve_left (by intro e; have := HQ.out; rw [e] at this; simp at this)
      have c2' : w1.cell? ⟨b, off + j * 2 + 1, none⟩ = some (.slice q.a q.x.length q.c) := by cases e'; exact (hc' j q HQ.out).2
      clear c1 c2 e' hc'
      have ha2 : Below w1.heap.size w1 (w1.alloc (.cells #[.slice q.a q.x.length q.c] 37)) := (Below.refl _ _).alloc (Nat.le_refl _) _
      go_wp2_with (at_builtin; refine wp_own rfl (.tmp 21) (.tmp 27) 33 rfl 37 i2 _ 1 24 Tryz.underlying33 k1 k2 k3 k4 rfl (by decide) u5 j ((L.take j).map BG.v) rfl (owns_fr HM.out.rows (below_fr ha2 (fun _ => False)) (fun _ _ e => e)) ⟨w1.heap.size, 0, none⟩ 1 1 [.slice q.a q.x.length q.c] rfl (by decide) rfl (news_of (heap_alloc_new w1 _) _ rfl) (by intro u hu; simp at hu; subst hu; rfl) (by unfold maxLen; omega) (by omega) ?_
                   intro g' cap' w2 h1 h2 h3
                   go_frame
                   have HE : Hid (SpG w w2 L (j + 1) (.slice (some ⟨g, 0, none⟩) (j + 1) cap) (.slice (some ⟨g', 0, none⟩) (j + 1) cap')) := HM.out.next HQ.out ha2 h1 h2 h3
                   clear h1 h2 h3)
      exact ⟨⟨j + 1, hlt, rfl, HE.out⟩, by simp [intOf]; omega⟩
    · have hjn : j = n := by omega
      subst hjn
      go_wp2
      go_ret2
      exact ⟨_, _, rfl, HA.out⟩
theorem pre_succ (ns : List Int) (i : Nat) : pre ns (i + 1) = nth ns i := by unfold pre; rw [if_neg (by omega)]; rfl
set_option maxRecDepth 100000 in
set_option maxHeartbeats 4000000 in
theorem r5may_any (w : World) (a : Option Addr) (k c : Nat) (ns : List Int) (n : Int) (hn : ns.length = k) (hI : Ints w a ns) :
    Calls Tryz.prog 89 #[.slice a k c, .int .i64 n] w fun e w' => e = .returned (.bool (rmay ns n)) ∧ Below w.heap.size w w' := by
  have HI : Hid (Ints w a ns ∧ ns.length = k) := ⟨hI, hn⟩
  obtain ⟨y0, hy0⟩ : ∃ y0, rmay ns n = y0 := ⟨_, rfl⟩
  have HYY : Hid (rmay ns n = y0) := hy0
  rw [hy0]
  clear hI hn hy0
  by_cases h1 : k < 1
  · have hr : rmay ns n = false := by
      cases e : rmay ns n with
      | false => rfl
      | true => have := ((rmay_split ns n).1 e).1; have := HI.out.2; omega
    obtain rfl : k = 0 := by omega
    clear h1
    go_enter Tryz.func89, Tryz.ntmps89
    go_wp2
    go_ret
    exact ⟨(by rw [← HYY.out, hr]; rfl), Below.refl _ _⟩
  by_cases h2 : 96 < k
  · have hr : rmay ns n = false := by
      cases e : rmay ns n with
      | false => rfl
      | true => have := ((rmay_split ns n).1 e).1; have := HI.out.2; omega
    have h1' : ¬ (k : Int) < 1 := by omega
    have h2' : (96 : Int) < (k : Int) := by omega
    go_enter Tryz.func89, Tryz.ntmps89
    go_wp2
    go_ret
    exact ⟨(by rw [← HYY.out, hr]; rfl), Below.refl _ _⟩
  obtain ⟨b, off, rfl, hc⟩ := HI.out.1.at_.resolve_left (by intro e; have := HI.out.2; rw [e] at this; simp at this; omega)
  have HC : Hid (∀ i, i < k → w.cell? ⟨b, off + i, none⟩ = some (.int .i64 (nth ns i))) := by have := HI.out.2; intro i hi; exact hc i (by omega)
  clear hc
  have h1' : ¬ (k : Int) < 1 := by omega
  have h2' : ¬ (96 : Int) < (k : Int) := by omega
  go_enter Tryz.func89, Tryz.ntmps89
  go_wp2
  go_loopw [5] (fun s5 wr => ∃ j : Nat, j ≤ k ∧ s5 = .int .i64 j ∧ (∃ m, wr = w.drewN m) ∧ ∀ i, i < j → pre ns i < nth ns i ∧ nth ns i < n) (fun s5 _ => k - (intOf s5).toNat)
  case atStart => exact ⟨0, Nat.zero_le _, rfl, ⟨0, rfl⟩, fun i hi => absurd hi (Nat.not_lt_zero _)⟩
  case round =>
    obtain ⟨j, hj, rfl, ⟨mw, rfl⟩, hA⟩ := hrel
    have HA : Hid (∀ i, i < j → pre ns i < nth ns i ∧ nth ns i < n) := hA
    clear hA
    by_cases hlt : j < k
    · have x0 : w.cell? ⟨b, off + j, none⟩ = some (.int .i64 (nth ns j)) := HC.out j hlt
      obtain ⟨z, hz⟩ : ∃ z, nth ns j = z := ⟨_, rfl⟩
      rw [hz] at x0
      have HZ : Hid (nth ns j = z) := hz
      clear hz
      have hno : ¬ (pre ns j < z ∧ z < n) → rmay ns n = false := fun h => by
        cases e : rmay ns n with
        | false => rfl
        | true =>
          have := of_decide_eq_true ((rmay_split ns n).1 e).2 j (by rw [HI.out.2]; exact hlt)
          rw [HZ.out] at this
          exact absurd this h
      have HNo : Hid (¬ (pre ns j < z ∧ z < n) → rmay ns n = false) := hno
      clear hno
      by_cases d1 : z < 98
      · have hr : rmay ns n = false := HNo.out (fun h => by
          have hlow : ∀ i, i ≤ j → 97 ≤ pre ns i := fun i => by
            induction i with
            | zero => intro _; show (97 : Int) ≤ 97; omega
            | succ i ih => intro hi; rw [pre_succ]; have := ih (by omega); have := (HA.out i (by omega)).1; omega
          have := hlow j (Nat.le_refl _); omega)
        have d1b : decide (z < 98) = true := decide_eq_true d1
        go_wp2
        go_quiet (fail)
        go_wp2
        go_ret
        exact ⟨(by rw [← HYY.out, hr]; rfl), by first | exact below_drewN (Below.refl _ _) _ | exact below_drewN (below_drewN (Below.refl _ _) _) _⟩
      have d1b : decide (z < 98) = false := decide_eq_false d1
      by_cases d2 : n ≤ z
      · have hr : rmay ns n = false := HNo.out (fun h => by omega)
        have d2b : decide (n ≤ z) = true := decide_eq_true d2
        go_wp2
        go_quiet (fail)
        go_wp2
        go_ret
        exact ⟨(by rw [← HYY.out, hr]; rfl), by first | exact below_drewN (Below.refl _ _) _ | exact below_drewN (below_drewN (Below.refl _ _) _) _⟩
      have d2b : decide (n ≤ z) = false := decide_eq_false d2
      by_cases d3 : j = 0
      · subst d3
        replace x0 : w.cell? ⟨b, off, none⟩ = some (.int .i64 z) := x0
        have HG : Hid (∀ i, i < 0 + 1 → pre ns i < nth ns i ∧ nth ns i < n) := fun i hi => by
          obtain rfl : i = 0 := by omega
          rw [HZ.out]; exact ⟨by show (97 : Int) < z; omega, by omega⟩
        go_wp2
        go_quiet (fail)
        go_wp2
        exact ⟨⟨0 + 1, hlt, rfl, ⟨_, rfl⟩, HG.out⟩, by simp [intOf]; omega⟩
      · obtain ⟨j', rfl⟩ : ∃ j', j = j' + 1 := ⟨j - 1, by omega⟩
        have y0 : w.cell? ⟨b, off + j', none⟩ = some (.int .i64 (nth ns j')) := HC.out j' (by omega)
        obtain ⟨y, hy⟩ : ∃ y, nth ns j' = y := ⟨_, rfl⟩
        rw [hy] at y0
        have HY : Hid (pre ns (j' + 1) = y) := by rw [pre_succ]; exact hy
        clear hy
        have d3b : decide ((0 : Int) < ((j' + 1 : Nat) : Int)) = true := decide_eq_true (by omega)
        by_cases d4 : z ≤ y
        · have hr : rmay ns n = false := HNo.out (fun h => by rw [HY.out] at h; omega)
          have d4b : decide (z ≤ y) = true := decide_eq_true d4
          go_wp2
          go_quiet (fail)
          go_wp2
          go_ret
          exact ⟨(by rw [← HYY.out, hr]; rfl), by first | exact below_drewN (Below.refl _ _) _ | exact below_drewN (below_drewN (Below.refl _ _) _) _⟩
        · have d4b : decide (z ≤ y) = false := decide_eq_false d4
          have HG : Hid (∀ i, i < j' + 1 + 1 → pre ns i < nth ns i ∧ nth ns i < n) := fun i hi => by
            by_cases e : i = j' + 1
            · subst e; rw [HZ.out, HY.out]; exact ⟨by omega, by omega⟩
            · exact HA.out i (by omega)
          go_wp2
          go_quiet (fail)
          go_wp2
          exact ⟨⟨j' + 1 + 1, hlt, rfl, ⟨_, rfl⟩, HG.out⟩, by simp [intOf]; omega⟩
    · have hr : rmay ns n = true := (rmay_split ns n).2 ⟨by have := HI.out.2; omega, decide_eq_true (fun i hi => HA.out i (by have := HI.out.2; omega))⟩
      go_wp2
      go_ret
      exact ⟨(by rw [← HYY.out, hr]; rfl), by first | exact below_drewN (Below.refl _ _) _ | exact below_drewN (below_drewN (Below.refl _ _) _) _⟩
set_option maxRecDepth 100000 in
set_option maxHeartbeats 4000000 in
theorem fault_any (w : World) (a0 : Option Addr) (k c : Nat) (L : List BG) (n : Int) (hL : BGs w a0 L) (hk : L.length = k) (hl : k ≤ 4398046511104) :
    Calls Tryz.prog 61 #[.slice a0 k c, .int .i64 n] w fun e w' => e = .returned (.int .i64 (ftE (nsG L) (dsG L) n)) ∧ Below w.heap.size w w' := by
  have HL : Hid (BGs w a0 L ∧ L.length = k) := ⟨hL, hk⟩
  have HS : Hid (Calls Tryz.prog 88 #[.slice a0 k c] w fun e w' => ∃ a nc da dc, e = .returned (.tuple #[.slice a k nc, .slice da k dc]) ∧ Below w.heap.size w w' ∧ Ints w' a (nsG L) ∧ Data w' da (dsG L)) :=
    (split_any w a0 k c L hL hk hl).mono (fun e w' ⟨s2, s3, e1, h⟩ => by
      obtain ⟨a, nc, da, dc, e2, e3, _, _, _, h1, h2⟩ := h.lists hL hk (by omega)
      exact ⟨a, nc, da, dc, by rw [e1, e2, e3], h.bel, h1, h2⟩)
  obtain ⟨F, hF0⟩ : ∃ F, ftE (nsG L) (dsG L) n = F := ⟨_, rfl⟩
  have HFt : Hid (ftE (nsG L) (dsG L) n = F) := hF0
  rw [hF0]
  clear hL hk hF0
  go_enter Tryz.func61, Tryz.ntmps61
  go_upto_region 2 with (go_at_call 88; refine HS.out.mono ?_; rintro e w1 ⟨sa, nc, da, dc, rfl, h1, h2, h3⟩; have H1 : Hid (Below w.heap.size w w1 ∧ Ints w1 sa (nsG L) ∧ Data w1 da (dsG L)) := ⟨h1, h2, h3⟩; clear h1 h2 h3)
  go_upto_region 3 with (go_at_call 89; refine (r5may_any w1 sa k nc (nsG L) n (by rw [nsG_len]; exact HL.out.2) H1.out.2.1).mono ?_; rintro e w2 ⟨rfl, h1⟩; have H2 : Hid (Below w1.heap.size w1 w2) := h1; clear h1)
  have HB : Hid (Below w.heap.size w w2) := H1.out.1.trans (H2.out.mono H1.out.1.size)
  obtain ⟨y, hy⟩ : ∃ y, rmay (nsG L) n = y := ⟨_, rfl⟩
  rw [hy]
  cases y
  · have hf : ftE (nsG L) (dsG L) n = 40 := by unfold ftE; rw [if_neg (by rw [hy]; decide)]
    clear hy
    go_wp2
    go_ret
    exact ⟨(by rw [← HFt.out, hf]; rfl), HB.out⟩
  · have HF : Hid (ftE (nsG L) (dsG L) n = if ∀ b, b ∈ dsG L → b.length = 512 then 0 else 32) := (show ftE (nsG L) (dsG L) n = _ by unfold ftE; rw [if_pos hy])
    have HD : Hid (Data w2 da (dsG L) ∧ (dsG L).length = k) := ⟨H1.out.2.2.on H2.out, by rw [dsG_len]; exact HL.out.2⟩
    clear hy
    go_wp2
    go_loopw [8] (fun s8 wr => ∃ j : Nat, j ≤ k ∧ s8 = .int .i64 j ∧ wr = w2 ∧ ∀ i, i < j → (row (dsG L) i).length = 512) (fun s8 _ => k - (intOf s8).toNat)
    case atStart => exact ⟨0, Nat.zero_le _, rfl, rfl, fun i hi => absurd hi (Nat.not_lt_zero _)⟩
    case round =>
      obtain ⟨j, hj, rfl, hwr, hA⟩ := hrel
      rw [hwr]
      clear hwr
      have HA : Hid (∀ i, i < j → (row (dsG L) i).length = 512) := hA
      clear hA
      by_cases hlt : j < k
      · obtain ⟨b, off, rfl, hc⟩ := HD.out.1.at_.resolve_left (by intro e; have := HD.out.2; rw [e] at this; simp at this; omega)
        obtain ⟨qa, qc, x0, _, _⟩ := hc j (by rw [HD.out.2]; exact hlt)
        obtain ⟨z, hz⟩ : ∃ z, (row (dsG L) j).length = z := ⟨_, rfl⟩
        rw [hz] at x0
        have hrow : row (dsG L) j ∈ dsG L := by
          unfold row; rw [List.getD, List.getElem?_eq_getElem (by rw [HD.out.2]; exact hlt)]; exact List.getElem_mem _
        clear hc
        by_cases h5 : z = 512
        · subst h5
          have HG : Hid (∀ i, i < j + 1 → (row (dsG L) i).length = 512) := fun i hi => by
            by_cases e : i = j
            · subst e; exact hz
            · exact HA.out i (by omega)
          clear hz hrow
          go_wp2
          exact ⟨⟨j + 1, hlt, rfl, by first | rfl | trivial, HG.out⟩, by simp [intOf]; omega⟩
        · have hf : ftE (nsG L) (dsG L) n = 32 := by rw [HF.out, if_neg (fun h => h5 (by rw [← hz]; exact h _ hrow))]
          have h5b : ¬ (z : Int) = 512 := by omega
          clear hz hrow
          go_wp2
          go_ret
          exact ⟨(by rw [← HFt.out, hf]; rfl), HB.out⟩
      · have hf : ftE (nsG L) (dsG L) n = 0 := by
          have hall : ∀ b, b ∈ dsG L → b.length = 512 := fun b hb => by
            obtain ⟨i, hi, rfl⟩ := List.getElem_of_mem hb
            have := HA.out i (by have := HD.out.2; omega)
            unfold row at this
            rw [List.getD, List.getElem?_eq_getElem hi] at this
            exact this
          rw [HF.out, if_pos hall]
        go_wp2
        go_ret
        exact ⟨(by rw [← HFt.out, hf]; rfl), HB.out⟩
end Go.Proofs.YtamlbpbhlgmcoaaGreatDoor

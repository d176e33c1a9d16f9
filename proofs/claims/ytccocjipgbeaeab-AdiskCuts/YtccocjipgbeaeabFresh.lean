import Derived.Test.YtccocjipgbeaeabDo
namespace Go.Proofs.Ytccocjipgbeaeab
open Go.RowKit Adk

/-- block i full of i -/
def frs (m : Nat) : List Int := (List.range m).flatMap (fun i : Nat => one (i : Int))
theorem one_length (x : Int) : (one x).length = 512 := List.length_replicate ..
theorem frs_succ (m : Nat) : frs (m + 1) = frs m ++ one (m : Int) := by
  unfold frs
  rw [List.range_succ, List.flatMap_append]; simp
theorem frs_length (m : Nat) : (frs m).length = 512 * m := by
  induction m with
  | zero => rfl
  | succ m ih => rw [frs_succ, List.length_append, ih, one_length]; omega
theorem nth_app {a b : List Int} (i : Nat) : nth (a ++ b) i = if i < a.length then nth a i else nth b (i - a.length) := by
  unfold nth
  by_cases h : i < a.length
  · rw [if_pos h]; simp [List.getD, List.getElem?_append, h]
  · rw [if_neg h]; simp [List.getD, List.getElem?_append, h]
theorem nth_frs (m i : Nat) (h : i < 512 * m) : nth (frs m) i = ((i / 512 : Nat) : Int) := by
  induction m with
  | zero => omega
  | succ m ih =>
    rw [frs_succ, nth_app, frs_length]
    by_cases h2 : i < 512 * m
    · rw [if_pos h2]; exact ih h2
    · rw [if_neg h2, one, nth_rep _ _ _ (by omega), show i / 512 = m by omega]
theorem wf_frs (m : Nat) (hm : m ≤ 256) : ∀ i, 0 ≤ nth (frs m) i ∧ nth (frs m) i < 256 := fun i => by
  by_cases h : i < 512 * m
  · rw [nth_frs m i h]; omega
  · rw [nth_out _ _ (by rw [frs_length]; omega)]; omega
theorem blk_frs (m i : Nat) (hi : i < m) : blk (frs m) i = one (i : Int) := by
  refine ext_nth (by rw [blk_length (frs_length m) hi, one_length]) fun j hj => ?_
  rw [blk_length (frs_length m) hi] at hj
  rw [nth_blk (frs_length m) hi j hj, nth_frs m _ (by omega), one, nth_rep _ _ _ hj, show (512 * i + j) / 512 = i by omega]
theorem ownB_of {w : World} {g n cap : Nat} {l : List Int} (h : w.ownsRow 0 5 1 (.slice (some ⟨g, 0, none⟩) n cap) n (l.map (Value.int .u8))) (hl : l.length = n) (hn : n ≤ 1000000000000000) (hw : ∀ i, 0 ≤ nth l i ∧ nth l i < 256) : OwnB w g cap l := by
  subst hl
  rcases h.2 with ⟨hv, _⟩ | ⟨g', cap', cur, hv, h1, hg, h2, h3, h4, h5⟩
  · cases hv
  · cases hv
    exact ⟨⟨cur, hg, by omega, by simpa using h5⟩, hn, h2, h3, hw⟩
/-- append of bytes to nil or one's own -/
theorem wp_bown {ops : Array Oper} {rest : List Oper} {o : Oper} {a : Act} {Q : Exit → Act → World → Prop} {w : World} (hgd : o.guard = none) (s x : Operand)
    (ho : o.op = .call { callee := .builtin .append, args := #[s, x], argTypes := #[25, 25] }) (v : Value) (k : Nat) (l : List Int) (hs : a.eval s = v) (hown : w.ownsRow 0 5 1 v k (l.map (Value.int .u8)))
    (ad : Addr) (m c : Nat) (y : List Int) (hx : a.eval x = .slice (some ad) m c) (hm : 0 < m) (hl : y.length = m) (hb : Bytes w (some ad) y) (h47 : k + m ≤ 140737488355328)
    (h : ∀ g cap w', w'.ownsRow 0 5 1 (.slice (some ⟨g, 0, none⟩) (k + m) cap) (k + m) ((l ++ y).map (Value.int .u8)) → Fr (fun k => v.ownBlock = some k) w w' → (v.ownBlock = some g ∨ w.heap.size ≤ g) → wpList Try.prog ops Q rest (a.put o.dst (.slice (some ⟨g, 0, none⟩) (k + m) cap)) w') :
    wpList Try.prog ops Q (o :: rest) a w := by
  obtain ⟨i0, hi, hz0, hz1, hz2⟩ := info_parts info5
  refine wp_own hgd s x 25 ho 5 i0 _ 1 1 Try.underlying25 hi hz0 hz1 hz2 rfl (by decide) v k _ hs hown ad m c (y.map (Value.int .u8)) hx hm (by rw [List.length_map, hl, Nat.mul_one]) hb.news (cells_u8 y) (by unfold maxLen; omega) (by omega) ?_
  intro g cap w' h1 h2 h3
  rw [← List.map_append] at h1
  exact h g cap w' h1 h2 h3
theorem str_opt {w : World} {a : Option Addr} {n c : Nat} {l : List Int} (hB : Bytes w a l) (hn : l.length = n) : (convert 25 9 (.slice a n c)).run Try.prog w = .ok (.string (strOfNums l)) w := by
  cases a with
  | none =>
    have hl := hB.nil
    subst hl
    simp at hn
    subst hn
    exact run_convert_bytes_nil (P := Try.prog) w 25 5 Try.underlying25 Try.underlying5 0 c 9 Try.underlying9
  | some p =>
    rcases hB.at_ with e | ⟨b, off, e, hc⟩
    · subst e
      simp at hn
      subst hn
      rw [run_convert_bytes_string w 25 9 5 _ 0 c Try.underlying25 Try.underlying5 Try.underlying9]
      have hl : (loadCells p 0).run Try.prog w = .ok ((([] : List Int).map (Value.int .u8)).toArray) w := by
        have := run_loadCells_list (P := Try.prog) w p [] (fun j v h => by simp at h)
        simpa using this
      rw [run_bytesToString w p 0 c [] hl]
      rfl
    · cases e
      exact run_convert_bytes_arg (P := Try.prog) w 25 5 Try.underlying25 Try.underlying5 b off n c l hn (fun i hi => hc i (by omega)) 9 Try.underlying9
set_option maxRecDepth 100000 in
set_option maxHeartbeats 4000000 in
theorem fresh_any (w : World) (n : Int) :
    Calls Try.prog 5 #[.int .i64 n] w fun e w' => ∃ d L nw capL g cap m, e = .returned (.tuple #[.pointer (some ⟨d, 0, none⟩), .slice (some ⟨g, 0, none⟩) (512 * m : Nat) cap]) ∧ (m : Int) = 1 + n % 9 ∧ 1 ≤ m ∧ m ≤ 9 ∧ w.heap.size ≤ d ∧ w.heap.size ≤ L ∧ w.heap.size ≤ nw ∧ w.heap.size ≤ g ∧ ¬ (newDk d L nw capL m (frs m)).has g ∧ Disk w' (newDk d L nw capL m (frs m)) ∧ OwnB w' g cap (frs m) ∧ Below w.heap.size w w' := by
  obtain ⟨r, hr⟩ : ∃ r : Nat, n % 9 = (r : Int) := ⟨(n % 9).toNat, by omega⟩
  have hr9 : r < 9 := by omega
  have HR : Hid (n % 9 = (r : Int)) := hr
  clear hr
  go_enter Try.func5, Try.ntmps5
  go_wp2
  go_loopw [4, 5, 10, 11, 12, 13, 14, 15, 16, 17, 18, 19, 20, 21] (fun im i _ _ _ _ _ _ _ _ _ _ _ _ wr => ∃ k : Nat, k ≤ r + 1 ∧ i = .int .i64 k ∧ wr.ownsRow 0 5 1 im (512 * k) ((frs k).map (Value.int .u8)) ∧ (∀ j, im.ownBlock = some j → w.heap.size ≤ j) ∧ Below w.heap.size w wr) (fun _ i _ _ _ _ _ _ _ _ _ _ _ _ _ => r + 1 - (intOf i).toNat)
  case atStart => exact ⟨0, Nat.zero_le _, rfl, ⟨rfl, .inl ⟨rfl, rfl⟩⟩, (fun j hj => by cases hj), Below.refl _ _⟩
  case round =>
    obtain ⟨k, hk, rfl, ho, hg, hb⟩ := hrel
    have HO : Hid (wr.ownsRow 0 5 1 u4 (512 * k) ((frs k).map (Value.int .u8)) ∧ (∀ j, u4.ownBlock = some j → w.heap.size ≤ j) ∧ Below w.heap.size w wr) := ⟨ho, hg, hb⟩
    clear ho hg hb
    by_cases hlt : k < r + 1
    · have hu8 : IntKind.u8.wrap (k : Int) = (k : Int) := by simp [IntKind.wrap, IntKind.bits]; omega
      go_wp2_with (first
        | (go_at_call 6; refine (mod_any _ n 9 (by omega) (by omega)).mono ?_; rintro e w' ⟨rfl, rfl⟩; rw [show n % ((9 : Nat) : Int) = (r : Int) from HR.out])
        | (go_at_call 24; refine (lblock_any _ (k : Int) (by omega)).mono ?_; rintro e w1 ⟨rfl, ho, hb⟩; have H1 : Hid (OwnB w1 wr.heap.size 512 (one (k : Int)) ∧ Below wr.heap.size wr w1) := ⟨ho, hb⟩; clear ho hb)
        | (at_builtin; refine wp_bown rfl (.tmp 17) (.tmp 20) rfl u4 (512 * k) (frs k) rfl (owns_fr HO.out.1 (below_fr H1.out.2 (fun j => wr.heap.size ≤ j)) (fun j hj => Nat.not_le.2 (owns_block HO.out.1 hj))) ⟨wr.heap.size, 0, none⟩ 512 512 (one (k : Int)) rfl (by omega) (one_length _) H1.out.1.bytes (by omega) ?_; intro g cap w2 ho hf hg; have H2 : Hid (w2.ownsRow 0 5 1 (.slice (some ⟨g, 0, none⟩) (512 * (k + 1)) cap) (512 * (k + 1)) ((frs (k + 1)).map (Value.int .u8)) ∧ w.heap.size ≤ g ∧ Below w.heap.size w w2) := ⟨by rw [frs_succ]; exact ho, hg.elim (HO.out.2.1 g) (fun e => Nat.le_trans HO.out.2.2.size (Nat.le_trans H1.out.2.size e)), (HO.out.2.2.trans (H1.out.2.mono HO.out.2.2.size)).trans (hf.below w.heap.size HO.out.2.1 (Nat.le_trans HO.out.2.2.size H1.out.2.size))⟩; clear ho hf hg))
      exact ⟨⟨_, hlt, rfl, H2.out.1, (fun j hj => by cases hj; exact H2.out.2.1), H2.out.2.2⟩, by simp [intOf]; omega⟩
    · obtain rfl : k = r + 1 := by omega
      obtain ⟨g, cap, hu4, hgw, hO, hBw⟩ : ∃ g cap, u4 = .slice (some ⟨g, 0, none⟩) (512 * (r + 1)) cap ∧ w.heap.size ≤ g ∧ OwnB wr g cap (frs (r + 1)) ∧ Below w.heap.size w wr := by
        obtain ⟨a, c, hv, _, hga, _⟩ := owns_slice HO.out.1
        obtain ⟨g, rfl⟩ := hga.resolve_left (by omega)
        subst hv
        exact ⟨g, c, rfl, HO.out.2.1 g rfl, ownB_of HO.out.1 (frs_length _) (by omega) (wf_frs _ (by omega)), HO.out.2.2⟩
      subst hu4
      have HG : Hid (w.heap.size ≤ g ∧ OwnB wr g cap (frs (r + 1)) ∧ Below w.heap.size w wr) := ⟨hgw, hO, hBw⟩
      clear hgw hO hBw HO
      have hu8 : IntKind.u8.wrap (r : Int) = (r : Int) := by simp [IntKind.wrap, IntKind.bits]; omega
      go_wp2_with (first
        | (go_at_call 6; refine (mod_any _ n 9 (by omega) (by omega)).mono ?_; rintro e w' ⟨rfl, rfl⟩; rw [show n % ((9 : Nat) : Int) = (r : Int) from HR.out])
        | (go_at_call 25; refine (open_yes _ ⟨g, 0, none⟩ cap (r + 1) (frs (r + 1)) HG.out.2.1.bytes (frs_length _) (by omega) (by omega)).mono ?_; rintro e w1 ⟨d, nw, L, capL, rfl, hd, hnw, hL, hD, hb1⟩; have H1 : Hid (Disk w1 (newDk d L nw capL (r + 1) (frs (r + 1)))) := hD; have HB1 : Hid (wr.heap.size ≤ d ∧ wr.heap.size ≤ nw ∧ wr.heap.size ≤ L ∧ Below wr.heap.size wr w1) := ⟨hd, hnw, hL, hb1⟩; clear hd hnw hL hD hb1)
        | (go_at_call 26; refine (blocks_any _ (newDk d L nw capL (r + 1) (frs (r + 1))) H1.out).mono ?_; rintro e w' ⟨rfl, rfl⟩; rw [show ((newDk d L nw capL (r + 1) (frs (r + 1))).nb : Int) = 1 + (r : Int) from by show ((r + 1 : Nat) : Int) = _; omega])
        | (go_at_call 9; refine (down_any _ (newDk d L nw capL (r + 1) (frs (r + 1))) H1.out).mono ?_; rintro e w' ⟨rfl, rfl⟩; rw [show (newDk d L nw capL (r + 1) (frs (r + 1))).down = false from rfl])
        | (go_at_call 27; refine (read_yes _ (newDk d L nw capL (r + 1) (frs (r + 1))) H1.out r (Nat.lt_succ_self r) rfl).mono ?_; rintro e w2 ⟨g2, cap2, rfl, hg2, ho2, hb2⟩; have H2 : Hid (w1.heap.size ≤ g2 ∧ OwnB w2 g2 cap2 (one (r : Int)) ∧ Below w1.heap.size w1 w2) := ⟨hg2, by rw [← blk_frs (r + 1) r (Nat.lt_succ_self r)]; exact ho2, hb2⟩; clear hg2 ho2 hb2))
      have HB2 : Hid (Below w2.heap.size w2 w2.drew) := (Below.refl _ w2).drew
      have e1 : (convert 25 9 (.slice (some ⟨g2, 0, none⟩) 512 cap2)).run Try.prog w2.drew = .ok (.string (strOfNums (one (r : Int)))) w2.drew := str_opt (H2.out.2.1.bytes.on HB2.out) (one_length _)
      go_region_law (first
        | (go_simp; go_at_call 6; refine (mod_any _ n 9 (by omega) (by omega)).mono ?_; rintro e w' ⟨rfl, rfl⟩; rw [show n % ((9 : Nat) : Int) = (r : Int) from HR.out])
        | (go_simp; go_at_call 24; refine (lblock_any _ (r : Int) (by omega)).mono ?_; rintro e w3 ⟨rfl, ho, hb⟩; have H3 : Hid (OwnB w3 w2.heap.size 512 (one (r : Int)) ∧ Below w2.heap.size w2 w3) := ⟨ho, HB2.out.trans hb⟩; have e2 : (convert 25 9 (.slice (some ⟨w2.heap.size, 0, none⟩) 512 512)).run Try.prog w3 = .ok (.string (strOfNums (one (r : Int)))) w3 := str_opt H3.out.1.bytes (one_length _); have e3 : (convert 25 9 (.slice (some ⟨g2, 0, none⟩) 512 cap2)).run Try.prog w3 = .ok (.string (strOfNums (one (r : Int)))) w3 := str_opt (H2.out.2.1.bytes.on H3.out.2) (one_length _); clear ho hb))
      all_goals
        go_wp2
        go_ret2
        have q1 := HG.out.2.2.size
        have q2 := HG.out.2.1.lt
        obtain ⟨q3, q4, q5, q6⟩ := HB1.out
        have q7 := HR.out
        have hb3 := H2.out.2.2.trans (H3.out.2.mono H2.out.2.2.size)
        have hb4 := q6.trans (hb3.mono q6.size)
        exact ⟨d, L, nw, capL, g, cap, r + 1, rfl, by rw [q7]; omega, by omega, by omega, by omega, by omega, by omega, HG.out.1, (fun e => by
          rcases e with e | e | e | e | e
          · have e : g = d := e; omega
          · have e : g = L := e; omega
          · have e : g = nw := e; omega
          · cases e
          · cases e), H1.out.on hb3, HG.out.2.1.on hb4, HG.out.2.2.trans (hb4.mono q1)⟩
end Go.Proofs.Ytccocjipgbeaeab

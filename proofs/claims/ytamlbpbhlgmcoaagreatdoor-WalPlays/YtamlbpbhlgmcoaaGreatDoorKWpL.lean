import Derived.Test.YtamlbpbhlgmcoaaGreatDoorKWpJ
namespace Go.Proofs.YtamlbpbhlgmcoaaGreatDoor
open Go.RowKit Rec
set_option maxRecDepth 100000 in
set_option maxHeartbeats 4000000 in
/-- apart, of blocks of any length -/
theorem apartG (w : World) (b n c : Nat) (L : List BG) (hL : BGs w (some ⟨b, 0, none⟩) L) (hn : L.length = n) (hl : n ≤ 4398046511104) :
    Calls Tryz.prog 42 #[.slice (some ⟨b, 0, none⟩) n c] w fun e w' => ∃ s2 s3, e = .returned (.tuple #[s2, s3]) ∧ SpG w w' L n s2 s3 := by
  have HL : Hid (BGs w (some ⟨b, 0, none⟩) L ∧ L.length = n) := ⟨hL, hn⟩
  clear hL hn
  obtain ⟨i1, j1, j2, j3, j4⟩ := info_parts infoNi
  obtain ⟨i2, k1, k2, k3, k4⟩ := info_parts infoSy
  go_enter Tryz.func42, Tryz.ntmps42
  go_wp2
  go_loopw [2, 3, 8] (fun s2 s3 s8 wr => ∃ j : Nat, j ≤ n ∧ s8 = .int .i64 j ∧ SpG w wr L j s2 s3) (fun _ _ s8 _ => n - (intOf s8).toNat)
  case atStart => exact ⟨0, Nat.zero_le _, rfl, SpG.start (Below.refl _ _)⟩
  case round =>
    obtain ⟨j, hj, rfl, hA⟩ := hrel
    have HA : Hid (SpG w wr L j u2 u3) := hA
    clear hA
    by_cases hlt : j < n
    · have hjl : j < L.length := by rw [HL.out.2]; exact hlt
      obtain ⟨q, hq⟩ : ∃ q, L[j]? = some q := ⟨_, List.getElem?_eq_getElem hjl⟩
      obtain ⟨b', off, e0, hc⟩ := (HL.out.1.on HA.out.bel).at_.resolve_left (by intro e; rw [e] at hjl; simp at hjl)
      cases e0
      obtain ⟨c1, c2⟩ := hc j q hq
      rw [Nat.zero_add] at c1 c2
      obtain ⟨V, hV⟩ : ∃ V, q.v = V := ⟨_, rfl⟩
      have hVs : V = .slice q.a q.x.length q.c := by rw [← hV]; rfl
      subst hVs
      have c2' : wr.cell? ⟨b, j * 2 + 1, none⟩ = some (.slice q.a q.x.length q.c) := c2
      obtain ⟨w1, hw1⟩ : ∃ w1, w1 = wr.alloc (.cells #[.int .i64 q.n, .slice q.a q.x.length q.c] 58) := ⟨_, rfl⟩
      obtain ⟨b1, r1⟩ := rows1 wr #[.int .i64 q.n, .slice q.a q.x.length q.c] 58
      rw [← hw1] at b1 r1
      have HA1 : Hid (SpG w w1 L j u2 u3) := HA.out.on b1
      have HR1 : Hid (w1.heap[wr.heap.size]? = some (.cells #[.int .i64 q.n, .slice q.a q.x.length q.c] 58 (0, 0))) := r1
      have HQ : Hid (L[j]? = some q) := hq
      clear c2 hq hc hV hjl
      go_upto_region 4 with fail
      rw [← hw1]
      clear hw1 c1 c2'
      have d1 : w1.cell? ⟨wr.heap.size, 0, none⟩ = some (.int .i64 q.n) := by rw [cell_of_row _ _ _ _ _ _ r1]; rfl
      clear r1 b1
      have HB1 : Hid (Below w1.heap.size w1 (w1.alloc (.cells #[.int .i64 q.n] 3))) := (Below.refl _ _).alloc (Nat.le_refl _) _
      go_upto_region 5 with (at_builtin; refine wp_own rfl (.tmp 12) (.tmp 15) 75 rfl 3 i1 _ 1 8 Tryz.underlying75 j1 j2 j3 j4 rfl (by decide) u2 j ((nsG (L.take j)).map (Value.int .i64)) rfl (owns_on HA1.out.nums HB1.out) ⟨w1.heap.size, 0, none⟩ 1 1 [.int .i64 q.n] rfl (by decide) rfl (news_of (heap_alloc_new w1 _) _ rfl) (by intro u hu; simp at hu; subst hu; rfl) (by unfold maxLen; omega) (by omega) ?_
                             intro g2 cap2 w2 ho hf hg
                             go_frame
                             have H2 : Hid (SpM w w2 L j (.slice (some ⟨g2, 0, none⟩) (j + 1) cap2) u3 ∧ w2.heap[wr.heap.size]? = some (.cells #[.int .i64 q.n, .slice q.a q.x.length q.c] 58 (0, 0))) := ⟨HA1.out.mid HQ.out HB1.out ho hf hg, hf.heap ((HB1.out.block _ (heap_lt HR1.out)).trans HR1.out) (own_apartR (HA1.out.on HB1.out).nums ((HB1.out.block _ (heap_lt HR1.out)).trans HR1.out) (by decide))⟩
                             clear ho hf hg)
      have d2 : w2.cell? ⟨wr.heap.size, 1, none⟩ = some (.slice q.a q.x.length q.c) := by rw [cell_of_row _ _ _ _ _ _ H2.out.2]; rfl
      clear d1
      have HB2 : Hid (Below w2.heap.size w2 (w2.alloc (.cells #[.slice q.a q.x.length q.c] 37))) := (Below.refl _ _).alloc (Nat.le_refl _) _
      go_wp2_with (at_builtin; refine wp_own rfl (.tmp 17) (.tmp 20) 33 rfl 37 i2 _ 1 24 Tryz.underlying33 k1 k2 k3 k4 rfl (by decide) u3 j ((L.take j).map BG.v) rfl (owns_on H2.out.1.rows HB2.out) ⟨w2.heap.size, 0, none⟩ 1 1 [.slice q.a q.x.length q.c] rfl (by decide) rfl (news_of (heap_alloc_new w2 _) _ rfl) (by intro u hu; simp at hu; subst hu; rfl) (by unfold maxLen; omega) (by omega) ?_
                   intro g3 cap3 w3 ho hf hg
                   go_frame
                   have H3 : Hid (SpG w w3 L (j + 1) (.slice (some ⟨g2, 0, none⟩) (j + 1) cap2) (.slice (some ⟨g3, 0, none⟩) (j + 1) cap3)) := H2.out.1.next HQ.out HB2.out ho hf hg
                   clear ho hf hg)
      exact ⟨⟨j + 1, hlt, rfl, H3.out⟩, by simp [intOf]; omega⟩
    · have e : j = n := by omega
      subst e
      go_wp2
      go_ret2
      exact ⟨_, _, rfl, HA.out⟩
/-- what headerOn finds wrong, the document says so too -/
theorem ft_head {ns : List Int} {ds : List (List Int)} {nb k : Nat} (hk : ns.length = k + 1) (hd : ds.length = ns.length) (hnb : nb ≤ 16384) (hf : ftE ns ds nb ≠ 0) : if (nb : Int) ≤ nth ns k then ftE ns ds nb = 40 else makeE ns ds = ftE ns ds nb := by
  split
  · rename_i hge
    unfold ftE
    rw [if_neg]
    intro c
    have hs := (rmay_split ns nb).1 c
    have := (of_decide_eq_true hs.2) k (by omega)
    omega
  · rename_i hlt
    unfold ftE at hf ⊢
    unfold makeE
    have hmm : may ns 16384 = true → may ns nb = true := fun h => may_mono ns 16384 nb h (fun i hi => by
      have hm := of_decide_eq_true h
      have up : ∀ d i, i + d = k → nth ns i ≤ nth ns k := fun d => by
        induction d with
        | zero => intro i e; rw [show i = k by omega]; exact Int.le_refl _
        | succ d ih =>
          intro i e
          have h1 := ih (i + 1) (by omega)
          have h2 := (hm (i + 1) (by omega)).1
          rw [pre_succ] at h2
          omega
      have := up (k - i) i (by omega)
      omega)
    by_cases c : (1 ≤ ns.length ∧ ns.length ≤ 96) ∧ may ns 16384 = true
    · rw [if_pos c]
      have hr : rmay ns nb = true := (rmay_split ns nb).2 ⟨c.1, hmm c.2⟩
      rw [if_pos hr] at hf ⊢
      by_cases c2 : ∀ b, b ∈ ds → b.length = 512
      · rw [if_pos c2] at hf; exact absurd rfl hf
      · rw [if_neg c2, if_neg]
        unfold blk
        intro e
        simp only [Bool.and_eq_true, decide_eq_true_eq] at e
        exact c2 e.2
    · rw [if_neg c, if_neg]
      intro e
      have hs := (rmay_split ns nb).1 e
      exact c ⟨hs.1, may_mono ns nb 16384 hs.2 (fun i hi => by have := pre_bd ns nb hs.2 i hi; omega)⟩
set_option maxRecDepth 100000 in
set_option maxHeartbeats 1600000 in
theorem header_no (w : World) (nb a nc da dc k : Nat) (ns : List Int) (ds : List (List Int)) (F : Int) (hF : ftE ns ds nb = F) (hf : F ≠ 0) (hnb : nb ≤ 16384) (hk : ns.length = k) (hk0 : 0 < k) (hkl : k ≤ 4398046511104) (hdl : ds.length = k) (hI : Ints w (some ⟨a, 0, none⟩) ns) (hD : Data w (some ⟨da, 0, none⟩) ds) (hT : TabAt w) :
    Calls Tryz.prog 43 #[.int .i64 nb, .slice (some ⟨a, 0, none⟩) k nc, .slice (some ⟨da, 0, none⟩) k dc] w fun e w' => e = .returned (.tuple #[.slice none 0 0, .int .i64 F]) ∧ Below w.heap.size w w' := by
  obtain ⟨m, rfl⟩ : ∃ m, k = m + 1 := ⟨k - 1, by omega⟩
  have hc : w.cell? ⟨a, m, none⟩ = some (.int .i64 (nth ns m)) := by have := hI.cell (i := m) (by omega); rwa [Nat.zero_add] at this
  have hft := ft_head (ds := ds) hk (by rw [hdl, hk]) hnb (by rw [hF]; exact hf)
  rw [hF] at hft
  have HM : Hid (makeE ns ds = F → Calls Tryz.prog 80 #[.slice (some ⟨a, 0, none⟩) (m + 1) nc, .slice (some ⟨da, 0, none⟩) (m + 1) dc] w fun e w' => e = .returned (.tuple #[.slice none 0 0, .int .i64 F]) ∧ Below w.heap.size w w') := fun hm => by
    refine (make_any w _ _ (m + 1) nc (m + 1) dc ns ds hk hdl hI hD hT).mono ?_
    rintro e w' ⟨v, rfl, hv, hb⟩
    rw [hm] at hv ⊢
    rcases hv with ⟨_, rfl⟩ | ⟨h, _⟩
    · exact ⟨rfl, hb⟩
    · exact absurd h hf
  obtain ⟨V, hV⟩ : ∃ V, nth ns m = V := ⟨_, rfl⟩
  rw [hV] at hc hft
  have hm1 : ((m + 1 : Nat) : Int) - 1 = (m : Int) := by omega
  clear hI hD hT hV hk hF hdl
  by_cases hlt : (nb : Int) ≤ V
  · rw [if_pos hlt] at hft
    subst hft
    clear HM
    go_enter Tryz.func43, Tryz.ntmps43
    go_wp2
    go_ret2
    exact ⟨rfl, Below.refl _ _⟩
  · rw [if_neg hlt] at hft
    have HM2 := HM.out hft
    clear HM hft
    have HM : Hid (Calls Tryz.prog 80 #[.slice (some ⟨a, 0, none⟩) (m + 1) nc, .slice (some ⟨da, 0, none⟩) (m + 1) dc] w fun e w' => e = .returned (.tuple #[.slice none 0 0, .int .i64 F]) ∧ Below w.heap.size w w') := HM2
    clear HM2
    go_enter Tryz.func43, Tryz.ntmps43
    go_wp2_with (go_at_call 80; refine HM.out.mono ?_; rintro e w1 ⟨rfl, hb⟩; have H1 : Hid (Below w.heap.size w w1) := hb; clear hb)
    go_ret2
    exact ⟨rfl, H1.out⟩
set_option maxRecDepth 100000 in
set_option maxHeartbeats 4000000 in
theorem commit_no (w : World) (D : Dk) (h : Disk w D) (hT : TabAt w) (b n c : Nat) (L : List BG) (hL : BGs w (some ⟨b, 0, none⟩) L) (hn : L.length = n) (h0 : 0 < n) (hl : n ≤ 4398046511104) (F : Int) (hF : ftE (nsG L) (dsG L) D.nb = F) (hf : F ≠ 0) :
    Calls Tryz.prog 19 #[.pointer (some ⟨D.d, 0, none⟩), .slice (some ⟨b, 0, none⟩) n c] w fun e w' => e = .returned (.int .i64 F) ∧ Below w.heap.size w w' := by
  have HAp : Hid (Calls Tryz.prog 42 #[.slice (some ⟨b, 0, none⟩) n c] w fun e w' => ∃ a nc da dc, e = .returned (.tuple #[.slice (some ⟨a, 0, none⟩) n nc, .slice (some ⟨da, 0, none⟩) n dc]) ∧ Below w.heap.size w w' ∧ Ints w' (some ⟨a, 0, none⟩) (nsG L) ∧ Data w' (some ⟨da, 0, none⟩) (dsG L)) := by
    refine (apartG w b n c L hL hn hl).mono ?_
    rintro e w' ⟨s2, s3, rfl, hA⟩
    obtain ⟨g, nc, g', dc, rfl, rfl, h1, h2⟩ := hA.nda hL hn h0 (by omega)
    exact ⟨g, nc, g', dc, rfl, hA.bel, h1.ints, h2⟩
  have HB : Hid (∀ wx, Below w.heap.size w wx → Calls Tryz.prog 44 #[.pointer (some ⟨D.d, 0, none⟩)] wx fun e w' => e = .returned (.int .i64 (D.nb : Int)) ∧ wx = w') := fun wx hx => blocks_any wx D (h.on hx)
  have hnb1 := h.nb1
  have HT : Hid (∀ wx, Below w.heap.size w wx → TabAt wx) := fun wx hx => hT.on hx
  have HL : Hid ((nsG L).length = n ∧ (dsG L).length = n ∧ ftE (nsG L) (dsG L) D.nb = F) := ⟨by rw [nsG_len]; exact hn, by rw [dsG_len]; exact hn, hF⟩
  have hz : ¬ (n : Int) = 0 := by omega
  obtain ⟨ns, hns⟩ : ∃ ns, nsG L = ns := ⟨_, rfl⟩
  obtain ⟨ds, hds⟩ : ∃ ds, dsG L = ds := ⟨_, rfl⟩
  rw [hns, hds] at HAp HL
  obtain ⟨nb, hnb⟩ : ∃ nb, D.nb = nb := ⟨_, rfl⟩
  rw [hnb] at HB HL hnb1
  obtain ⟨d, hd⟩ : ∃ d, D.d = d := ⟨_, rfl⟩
  rw [hd] at HB ⊢
  clear h hT hL hn hF hns hds hnb hd
  go_enter Tryz.func19, Tryz.ntmps19
  go_wp2_with (first
    | (go_at_call 42; refine HAp.out.mono ?_; rintro e w1 ⟨a, nc, da, dc, rfl, hb, h1, h2⟩; have H1 : Hid (Below w.heap.size w w1 ∧ Ints w1 (some ⟨a, 0, none⟩) ns ∧ Data w1 (some ⟨da, 0, none⟩) ds) := ⟨hb, h1, h2⟩; clear hb h1 h2)
    | (go_at_call 44; have hh := H1.out; clear hh; refine (HB.out _ H1.out.1).mono ?_; rintro e w' ⟨rfl, rfl⟩)
    | (go_at_call 43; have hh := H1.out; clear hh; refine (header_no _ nb a nc da dc n ns ds F HL.out.2.2 hf (by omega) HL.out.1 h0 hl HL.out.2.1 H1.out.2.1 H1.out.2.2 (HT.out _ H1.out.1)).mono ?_; rintro e w2 ⟨rfl, hb⟩; have H2 : Hid (Below w.heap.size w w2) := H1.out.1.trans (hb.mono H1.out.1.size); clear hb))
  go_ret
  exact ⟨rfl, H2.out⟩
end Go.Proofs.YtamlbpbhlgmcoaaGreatDoor

namespace Go.Proofs.YtamlbpbhlgmcoaaGreatDoor
open Go.RowKit Rec
theorem infoBk : (Tryz.prog.info? 58).map (fun i => (i.zero, i.size, i.bytes)) = some (some (.agg #[.int .i64 0, .slice none 0 0]), 2, 32) := by kernel_rfl
/-- bytes appended to no bytes -/
theorem wp_dupB {ops : Array Oper} {rest : List Oper} {o : Oper} {a : Act} {Q : Exit → Act → World → Prop} {w : World} (hgd : o.guard = none) (s x : Operand)
    (ho : o.op = .call { callee := .builtin .append, args := #[s, x], argTypes := #[37, 37] }) (B g0 : Nat) (hs : a.eval s = .slice (some ⟨g0, 0, none⟩) 0 0) (hown : w.ownsRow B 5 1 (.slice (some ⟨g0, 0, none⟩) 0 0) 0 []) (hB : B ≤ w.heap.size)
    (pa : Option Addr) (m c : Nat) (y : List Int) (hx : a.eval x = .slice pa m c) (hn : pa = none → c = 0) (hl : y.length = m) (hb : Bytes w pa y) (h47 : m ≤ 140737488355328)
    (h : ∀ v w', w'.ownsRow 0 5 1 v m (y.map (Value.int .u8)) → Fr (fun k => k = g0) w w' → (∀ k, v.ownBlock = some k → B ≤ k) → wpList Tryz.prog ops Q rest (a.put o.dst v) w') :
    wpList Tryz.prog ops Q (o :: rest) a w := by
  obtain ⟨i0, hi, hz0, hz1, hz2⟩ := info_parts info5
  have hR : ∀ (v1 : Value) (w1 : World), w1.ownsRow B 5 1 v1 m (y.map (Value.int .u8)) → (w1.ownsRow 0 5 1 v1 m (y.map (Value.int .u8)) ∧ ∀ k, v1.ownBlock = some k → B ≤ k) := fun v1 w1 ho => by
    rcases ho.2 with ⟨rfl, h0⟩ | ⟨g, cap, cur, rfl, h2, h3⟩
    · exact ⟨⟨ho.1, .inl ⟨rfl, h0⟩⟩, fun k hk => by cases hk⟩
    · exact ⟨⟨ho.1, .inr ⟨g, cap, cur, rfl, Nat.zero_le _, h3⟩⟩, fun k hk => by cases hk; exact h2⟩
  cases pa with
  | none =>
    have hy : y = [] := hb.nil
    subst hy
    have hm : m = 0 := hl.symm
    subst hm
    have hc := hn rfl
    subst hc
    refine wpList_append_own_none hgd s x 37 ho B 5 i0 1 Tryz.underlying37 hi _ 0 [] hs hown hx ?_
    obtain ⟨h1, h2⟩ := hR _ _ hown
    exact h _ _ h1 (Fr.refl _ _) h2
  | some p =>
    refine wpList_append_own _ hgd s x 37 ho B 5 i0 _ 1 1 Tryz.underlying37 hi hz0 hz1 hz2 rfl (by decide) _ 0 [] hs hown p m c (y.map (Value.int .u8)) hx (by rw [List.length_map, hl, Nat.mul_one]) hb.news (cells_u8 y) (by unfold maxLen; omega) (by omega) hB ?_
    intro v1 w1 ho hg _
    rw [Nat.zero_add, List.nil_append] at ho
    obtain ⟨h1, h2⟩ := hR _ _ ho
    exact h _ _ h1 ((grown_fr hg).mono (fun k e => by cases e; rfl)) h2
theorem news3 {w : World} {b : Nat} {t : TypeId} (h : w.heap[b]? = some (.cells #[.int .u8 77, .int .u8 78, .int .u8 79] t (0, 0))) : Bytes w (some ⟨b, 0, none⟩) [77, 78, 79] := by
  refine ⟨by simp, wf_list (by decide), .inr ⟨b, 0, rfl, fun i hi => ?_⟩⟩
  rw [Nat.zero_add, cell_of_row _ _ _ _ _ _ h]
  have h3 : i < 3 := hi
  rcases (by omega : i = 0 ∨ i = 1 ∨ i = 2) with rfl | rfl | rfl <;> rfl
/-- a block that was lent: its bytes in a row of their own, three behind -/
structure LnR where
  n : Int
  g : Nat
  c : Nat
  x : List Int
def LnR.cells (q : LnR) : List Value := [.int .i64 q.n, .slice (some ⟨q.g, 0, none⟩) q.x.length q.c]
def LnR.bg (q : LnR) : BG := ⟨q.n, some ⟨q.g, 0, none⟩, q.c, q.x⟩
def lnOf (Q : List LnR) : List (Int × List Int) := Q.map (fun q => (q.n, q.x))
def bgOf (L : List BG) : List (Int × List Int) := L.map (fun q => (q.n, q.x))
theorem lnCells_len (Q : List LnR) : (Q.flatMap LnR.cells).length = Q.length * 2 := by
  induction Q with
  | nil => rfl
  | cons q Q ih => rw [List.flatMap_cons, List.length_append, ih, List.length_cons, Nat.succ_mul]; show 2 + _ = _; omega
structure LnA (w wr : World) (v : Value) (Q : List LnR) : Prop where
  row : wr.ownsRow 0 58 2 v Q.length (Q.flatMap LnR.cells)
  each : ∀ q ∈ Q, OwnB wr q.g q.c (q.x ++ [77, 78, 79]) ∧ w.heap.size ≤ q.g
  far : ∀ k, v.ownBlock = some k → w.heap.size ≤ k
  bel : Below w.heap.size w wr
theorem LnA.zero (w : World) : LnA w w (.slice none 0 0) [] := ⟨⟨rfl, .inl ⟨rfl, rfl⟩⟩, (fun q h => by cases h), (fun k h => by cases h), Below.refl _ _⟩
theorem LnA.on {w wr w' : World} {v : Value} {Q : List LnR} (h : LnA w wr v Q) (hb : Below wr.heap.size wr w') : LnA w w' v Q := ⟨owns_on h.row hb, fun q hq => ⟨(h.each q hq).1.on hb, (h.each q hq).2⟩, h.far, h.bel.trans (hb.mono h.bel.size)⟩
theorem LnA.add {w wr wa w' : World} {v : Value} {Q : List LnR} {q : LnR} {g cap k : Nat} (h : LnA w wr v Q) (hk : Q.length = k) (ha : Below wr.heap.size wr wa) (hq : OwnB wa q.g q.c (q.x ++ [77, 78, 79]) ∧ w.heap.size ≤ q.g) (h1 : w'.ownsRow 0 58 2 (.slice (some ⟨g, 0, none⟩) (k + 1) cap) (k + 1) (Q.flatMap LnR.cells ++ q.cells)) (h2 : Fr (fun k => v.ownBlock = some k) wa w') (h3 : v.ownBlock = some g ∨ wa.heap.size ≤ g) : LnA w w' (.slice (some ⟨g, 0, none⟩) (k + 1) cap) (Q ++ [q]) := by
  subst hk
  have h' := h.on ha
  refine ⟨by rw [List.length_append, List.flatMap_append]; simpa using h1, fun p hp => ?_, fun b e => ?_, h'.bel.trans (h2.below _ h.far h'.bel.size)⟩
  · rcases List.mem_append.1 hp with hp | hp
    · exact ⟨(h'.each p hp).1.fr h2 (own_apart7 h'.row (h'.each p hp).1 (by decide)), (h'.each p hp).2⟩
    · rw [List.mem_singleton] at hp; subst hp
      exact ⟨hq.1.fr h2 (own_apart7 h'.row hq.1 (by decide)), hq.2⟩
  · cases e
    rcases h3 with h3 | h3
    · exact h.far _ h3
    · exact Nat.le_trans h'.bel.size h3
/-- what lent answers -/
structure LnE (w w' : World) (g cap n : Nat) (Q : List LnR) : Prop where
  row : w'.ownsRow 0 58 2 (.slice (some ⟨g, 0, none⟩) (n + 1) cap) (n + 1) (Q.flatMap LnR.cells ++ [.int .i64 (-7), .slice none 0 0])
  len : Q.length = n
  each : ∀ q ∈ Q, OwnB w' q.g q.c (q.x ++ [77, 78, 79]) ∧ w.heap.size ≤ q.g
  far : w.heap.size ≤ g
  bel : Below w.heap.size w w'
theorem LnA.done {w wr wa w' : World} {v : Value} {Q : List LnR} {g cap k : Nat} (h : LnA w wr v Q) (hk : Q.length = k) (ha : Below wr.heap.size wr wa) (h1 : w'.ownsRow 0 58 2 (.slice (some ⟨g, 0, none⟩) (k + 1) cap) (k + 1) (Q.flatMap LnR.cells ++ [.int .i64 (-7), .slice none 0 0])) (h2 : Fr (fun k => v.ownBlock = some k) wa w') (h3 : v.ownBlock = some g ∨ wa.heap.size ≤ g) : LnE w w' g cap k Q := by
  have h' := h.on ha
  refine ⟨h1, hk, fun p hp => ⟨(h'.each p hp).1.fr h2 (own_apart7 h'.row (h'.each p hp).1 (by decide)), (h'.each p hp).2⟩, ?_, h'.bel.trans (h2.below _ h.far h'.bel.size)⟩
  rcases h3 with h3 | h3
  · exact h.far _ h3
  · exact Nat.le_trans h'.bel.size h3
theorem bgOf_take {L : List BG} {j : Nat} {q : BG} (hq : L[j]? = some q) : bgOf (L.take (j + 1)) = bgOf (L.take j) ++ [(q.n, q.x)] := by
  unfold bgOf; rw [take_bg hq, List.map_append]; rfl
def LtP (w : World) (n : Nat) (L : List BG) (e : Ending) (w' : World) : Prop := ∃ g cap Q, e = .returned (.slice (some ⟨g, 0, none⟩) n cap) ∧ lnOf Q = bgOf L ∧ LnE w w' g cap n Q
set_option maxRecDepth 100000 in
set_option maxHeartbeats 8000000 in
theorem wlent_any (w : World) (a0 : Option Addr) (n c : Nat) (L : List BG) (hL : BGs w a0 L) (hn : L.length = n) (hl : n ≤ 4398046511000) (hx : ∀ q ∈ L, q.x.length ≤ 140737488351232) :
    Calls Tryz.prog 25 #[.slice a0 n c] w (LtP w n L) := by
  have HL : Hid (BGs w a0 L ∧ L.length = n ∧ ∀ q ∈ L, q.x.length ≤ 140737488351232) := ⟨hL, hn, hx⟩
  clear hL hn hx
  obtain ⟨i1, j1, j2, j3, j4⟩ := info_parts infoBk
  go_enter Tryz.func25, Tryz.ntmps25
  go_wp2
  go_loopw [3, 4] (fun s3 s4 wr => ∃ j : Nat, j ≤ n ∧ s4 = .int .i64 j ∧ ∃ Q, lnOf Q = bgOf (L.take j) ∧ LnA w wr s3 Q) (fun _ s4 _ => n - (intOf s4).toNat)
  case atStart => exact ⟨0, Nat.zero_le _, rfl, [], rfl, LnA.zero _⟩
  case round =>
    obtain ⟨j, hj, rfl, Q, hQ, hA⟩ := hrel
    have hQl : Q.length = j := by
      have := congrArg List.length hQ
      simp only [lnOf, bgOf, List.length_map, List.length_take] at this
      rw [this, HL.out.2.1]; omega
    have HA : Hid (LnA w wr u3 Q ∧ lnOf Q = bgOf (L.take j) ∧ Q.length = j) := ⟨hA, hQ, hQl⟩
    clear hA hQ hQl
    by_cases hlt : j < n
    · have hjl : j < L.length := by rw [HL.out.2.1]; exact hlt
      obtain ⟨q, hq⟩ : ∃ q, L[j]? = some q := ⟨_, List.getElem?_eq_getElem hjl⟩
      have HQ : Hid (L[j]? = some q) := hq
      have HBe : Hid (Bytes wr q.a q.x ∧ (q.a = none → q.c = 0) ∧ q.x.length ≤ 140737488351232) := ⟨((HL.out.1.each q (List.mem_of_getElem? hq)).1).on HA.out.1.bel, (HL.out.1.each q (List.mem_of_getElem? hq)).2, HL.out.2.2 q (List.mem_of_getElem? hq)⟩
      obtain ⟨b, off, rfl, hc⟩ := HL.out.1.at_.resolve_left (by intro e; rw [e] at hjl; simp at hjl)
      obtain ⟨c1, c2⟩ := hc j q hq
      have HC : Hid (∀ wz, Below w.heap.size w wz → wz.cell? ⟨b, off + j * 2, none⟩ = some (.int .i64 q.n) ∧ wz.cell? ⟨b, off + j * 2 + 1, none⟩ = some (.slice q.a q.x.length q.c)) := fun wz hb => ⟨(below_fr hb (fun _ => False)).cell c1 (fun e => e), (below_fr hb (fun _ => False)).cell c2 (fun e => e)⟩
      clear c1 c2 hc hq hjl
      obtain ⟨m, hm⟩ : ∃ m, q.x.length = m := ⟨_, rfl⟩
      have HM : Hid (q.x.length = m) := hm
      rw [hm] at HC
      have hmb : m ≤ 140737488351232 := by rw [← hm]; exact HBe.out.2.2
      clear hm
      have HAl : Hid (Below wr.heap.size wr (wr.alloc (.cells #[] 5))) := (Below.refl _ _).alloc (Nat.le_refl _) _
      have c2 := (HC.out (wr.alloc (.cells #[] 5)) (HA.out.1.bel.trans (HAl.out.mono HA.out.1.bel.size))).2
      have HE : Hid ((wr.alloc (.cells #[] 5)).ownsRow wr.heap.size 5 1 (.slice (some ⟨wr.heap.size, 0, none⟩) 0 0) 0 []) := ⟨rfl, .inr ⟨_, _, _, rfl, Nat.le_refl _, heap_alloc_new _ _, Nat.le_refl _, Nat.zero_le _, rfl, rfl⟩⟩
      go_upto_region 6 with (first
        | (at_builtin; refine wp_dupB rfl (.tmp 12) (.tmp 17) rfl wr.heap.size wr.heap.size rfl HE.out HAl.out.size q.a m q.c q.x rfl HBe.out.2.1 HM.out (HBe.out.1.on HAl.out) (by omega) ?_
           intro v1 w1 h1 h2 h3
           go_frame
           have H1 : Hid (w1.ownsRow 0 5 1 v1 m (q.x.map (Value.int .u8)) ∧ (∀ k, v1.ownBlock = some k → wr.heap.size ≤ k) ∧ Below wr.heap.size wr w1) := ⟨h1, h3, HAl.out.trans (h2.below _ (fun k e => by rw [show k = wr.heap.size from e]; exact Nat.le_refl _) HAl.out.size)⟩
           clear h1 h2 h3)
        | (at_builtin
           have hA2 : Below w1.heap.size w1 (w1.alloc (.cells #[.int .u8 77, .int .u8 78, .int .u8 79] 5)) := (Below.refl _ _).alloc (Nat.le_refl _) _
           refine wp_bown rfl (.tmp 18) (.tmp 19) rfl v1 m q.x rfl (owns_on H1.out.1 hA2) ⟨w1.heap.size, 0, none⟩ 3 3 [77, 78, 79] rfl (by decide) rfl (news3 (heap_alloc_new w1 _)) (by omega) ?_
           intro g2 cap2 w2 h1 h2 h3
           go_frame
           have H2 : Hid (OwnB w2 g2 cap2 (q.x ++ [77, 78, 79]) ∧ wr.heap.size ≤ g2 ∧ Below wr.heap.size wr w2) := ⟨ownB_of h1 (by rw [List.length_append, HM.out]; rfl) (by omega) (wf_two HBe.out.1.wf (wf_list (by decide))), h3.elim (H1.out.2.1 g2) (fun e => Nat.le_trans H1.out.2.2.size (Nat.le_trans hA2.size e)), (H1.out.2.2.trans (hA2.mono H1.out.2.2.size)).trans (h2.below _ H1.out.2.1 (Nat.le_trans H1.out.2.2.size hA2.size))⟩
           clear h1 h2 h3 hA2))
      clear c2
      have hcap : m + 3 ≤ cap2 := by have := H2.out.1.room; rw [List.length_append, HM.out] at this; exact this
      have HB2 : Hid (Below w.heap.size w w2) := HA.out.1.bel.trans (H2.out.2.2.mono HA.out.1.bel.size)
      have d1 := (HC.out w2.drew HB2.out.drew).1
      have d2 := (HC.out w2.drew HB2.out.drew).2
      have c1 := (HC.out w2 HB2.out).1
      have c2 := (HC.out w2 HB2.out).2
      have HRow : Hid (w2.ownsRow 0 58 2 u3 j (Q.flatMap LnR.cells)) := by
        have := (HA.out.1.on H2.out.2.2).row; rw [HA.out.2.2] at this; exact this
      have hcap2 : m ≤ cap2 := by omega
      go_region_law (first
       | (refine step_own (by rfl) (.tmp 21) (.tmp 36) 42 (by rfl) 58 i1 _ 2 32 Tryz.underlying42 j1 j2 j3 j4 (by rfl) (by decide) u3 j (Q.flatMap LnR.cells) (by rfl) (owns_fr HRow.out (below_fr ((Below.refl w2.heap.size w2).drew.alloc (Nat.le_refl _) _) (fun _ => False)) (fun _ _ e => e)) ⟨w2.heap.size, 0, none⟩ 1 1 [.int .i64 q.n, .slice (some ⟨g2, 0, none⟩) m cap2] (by rfl) (by decide) rfl (news_of (heap_alloc_new w2.drew _) _ rfl) (by intro u hu; simp at hu; rcases hu with rfl | rfl <;> rfl) (by unfold maxLen; omega) (by omega) ?_
          intro g cap w3 h1 h2 h3
          have HE2 : Hid (∃ Q', lnOf Q' = bgOf (L.take (j + 1)) ∧ LnA w w3 (.slice (some ⟨g, 0, none⟩) (j + 1) cap) Q') := (by
            have hal : Below w2.heap.size w2 (w2.drew.alloc (.cells #[.int .i64 q.n, .slice (some ⟨g2, 0, none⟩) m cap2] 58)) := (Below.refl w2.heap.size w2).drew.alloc (Nat.le_refl _) _
            refine ⟨Q ++ [⟨q.n, g2, cap2, q.x⟩], ?_, HA.out.1.add HA.out.2.2 (H2.out.2.2.trans (hal.mono H2.out.2.2.size)) ⟨H2.out.1.on hal, Nat.le_trans HA.out.1.bel.size H2.out.2.1⟩ (by unfold LnR.cells; rw [HM.out]; exact h1) h2 h3⟩
            rw [bgOf_take HQ.out, ← HA.out.2.1]; unfold lnOf; rw [List.map_append]; rfl)
          clear h1 h2 h3))
      all_goals
        clear d1 d2 c1 c2
        go_wp2
        exact ⟨⟨j + 1, hlt, rfl, HE2.out⟩, by simp [intOf]; omega⟩
    · have e : j = n := by omega
      subst e
      have HRow : Hid (wr.ownsRow 0 58 2 u3 j (Q.flatMap LnR.cells)) := by
        have := HA.out.1.row; rw [HA.out.2.2] at this; exact this
      go_upto_region 8 with (at_builtin
                             have hal : Below wr.heap.size wr (wr.alloc (.cells #[.int .i64 (-7), .slice none 0 0] 58)) := (Below.refl wr.heap.size wr).alloc (Nat.le_refl _) _
                             refine wp_own rfl (.tmp 38) (.tmp 40) 42 rfl 58 i1 _ 2 32 Tryz.underlying42 j1 j2 j3 j4 rfl (by decide) u3 j (Q.flatMap LnR.cells) rfl (owns_on HRow.out hal) ⟨wr.heap.size, 0, none⟩ 1 1 [.int .i64 (-7), .slice none 0 0] rfl (by decide) rfl (news_of (heap_alloc_new wr _) _ rfl) (by intro u hu; simp at hu; rcases hu with rfl | rfl <;> rfl) (by unfold maxLen; omega) (by omega) ?_
                             intro g cap w2 h1 h2 h3
                             go_frame
                             have HE : Hid (LnE w w2 g cap j Q) := HA.out.1.done HA.out.2.2 hal h1 h2 h3
                             clear h1 h2 h3 hal)
      have hcap : j + 1 ≤ cap := by
        obtain ⟨_, _, e, k1, _⟩ := owns_slice HE.out.row
        cases e; exact k1
      have hcap2 : j ≤ cap := by omega
      go_wp2
      go_ret
      refine ⟨_, _, Q, rfl, ?_, HE.out⟩
      have := HA.out.2.1
      rw [List.take_of_length_le (by rw [HL.out.2.1]; exact Nat.le_refl _)] at this
      exact this
end Go.Proofs.YtamlbpbhlgmcoaaGreatDoor

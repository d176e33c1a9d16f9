import Derived.Test.YtkmadcjbeiigmaaPbD
namespace Go.Proofs.Ytkmadcjbeiigmaa
open Go.RowKit Go.Shelf Pa
theorem infoI : (Try.prog.info? 3).map (fun i => (i.zero, i.size, i.bytes)) = some (some (.int .i64 0), 1, 8) := by kernel_rfl
/-- a row of numbers of one's own -/
def Oi (w : World) (base : Nat) (v : Value) (zs : List Nat) : Prop := w.ownsRow base 3 1 v zs.length (zs.map (fun z : Nat => Value.int .i64 (z : Int)))
theorem Oi.nil (w : World) (base : Nat) : Oi w base (.slice none 0 0) [] := World.ownsRow_nil _ _ _ _
theorem Oi.cases {w : World} {base : Nat} {v : Value} {zs : List Nat} (h : Oi w base v zs) : (zs = [] ∧ v = .slice none 0 0) ∨ ∃ g cap, v = .slice (some ⟨g, 0, none⟩) zs.length cap ∧ ∀ (j z : Nat), zs[j]? = some z → w.cell? ⟨g, j, none⟩ = some (.int .i64 (z : Int)) := by
  rcases h.2 with ⟨e, e2⟩ | ⟨g, cap, cur, e1, e2, e3, e4, e5, _⟩
  · exact .inl ⟨List.eq_nil_of_length_eq_zero e2, e⟩
  · refine .inr ⟨g, cap, e1, fun j z hj => ?_⟩
    have := World.ownsRow.cells h (g := g) (by rw [e1]; rfl) j (.int .i64 (z : Int)) (by rw [List.getElem?_map, hj]; rfl)
    cases j with
    | zero => simpa [Addr.add] using this
    | succ j => simpa [Addr.add] using this
theorem Oi.append {w : World} {base : Nat} {v : Value} {zs : List Nat} (h : Oi w base v zs) (z : Nat) (hl : zs.length ≤ 1000000) (hb : base ≤ w.heap.size) :
    ∃ g cap w', (Builtin.append_ #[41, 41] 41 #[v, .slice (some ⟨w.heap.size, 0, none⟩) 1 1]).run Try.prog (w.alloc (.cells #[.int .i64 (z : Int)] 3)) = .ok (.slice (some ⟨g, 0, none⟩) (zs.length + 1) cap) w' ∧ Oi w' base (.slice (some ⟨g, 0, none⟩) (zs.length + 1) cap) (zs ++ [z]) ∧ ∀ w0, Below base w0 w → Below base w0 w' := by
  obtain ⟨i0, hi, hz0, hz1, hz2⟩ := info_parts infoI
  have hrow := World.ownsRow.alloc h (.cells #[.int .i64 (z : Int)] 3)
  obtain ⟨v', w', hr, r1, r2, _⟩ := run_append_own (P := Try.prog) _ base 41 41 3 i0 (.int .i64 0) 1 8 Try.underlying41 hi hz0 hz1 hz2 rfl (by decide) v zs.length _ hrow ⟨w.heap.size, 0, none⟩ 1 1 [.int .i64 (z : Int)] rfl
        (fun j u hu => by
          cases j with
          | zero => simp at hu; subst hu; exact cell_new w _ _
          | succ j => simp at hu) (by simp [Value.oneCell']) (by simp [maxLen]; omega) (by omega) (by simp; omega)
  obtain ⟨g', cap', rfl⟩ := ownsRow_succ r1
  refine ⟨g', cap', w', hr, ?_, fun w0 h0 => (h0.alloc hb _).grown r2 (by simp; omega) (fun r e => (World.ownsRow.lt h r e).1)⟩
  have : (zs ++ [z]).length = zs.length + 1 := by simp
  unfold Oi
  rw [this]
  simpa using r1
theorem rem_at (z : Int) {q : Nat} (h0 : 0 < q) (h1 : q ≤ 1024) : ∃ r : Nat, r < q ∧ wrap64 ((IntKind.u64.wrap z).tmod (q : Int)) = (r : Int) := by
  have hX : 0 ≤ IntKind.u64.wrap z := by rw [IntKind.wrap_u64]; omega
  rw [Int.tmod_eq_emod_of_nonneg hX]
  have a1 := Int.emod_nonneg (IntKind.u64.wrap z) (b := (q : Int)) (by omega)
  have a2 := Int.emod_lt_of_pos (IntKind.u64.wrap z) (b := (q : Int)) (by omega)
  generalize IntKind.u64.wrap z % (q : Int) = y at a1 a2
  refine ⟨y.toNat, by omega, ?_⟩
  unfold wrap64
  omega
theorem fit_no {c d : Nat} (h : c + d ≤ 1024) : ¬ (1024 : Int) < (c : Int) + (d : Int) := by omega
theorem fit_yes {c d : Nat} (h : ¬ c + d ≤ 1024) : (1024 : Int) < (c : Int) + (d : Int) := by omega
theorem cat_no {c p d : Nat} (h : c + d ≤ 1024) (h2 : p + 1 ≤ c) : ¬ 9223372036854775807 < min (p + 1) c + d ∧ ¬ 9223372036854775807 < min (p + 1) c + d + (c - (p + 1)) := by omega
theorem le2048 {c d : Nat} (h : c ≤ 1024) (h2 : d ≤ 2) : c + d ≤ 2048 := by omega
/-- what is put, in memory -/
def PutsAt (w : World) (a : Option Addr) (n : Nat) (A : Nat → Int) (D : Nat → Bool) : Prop := n = 0 ∨ ∃ b off, a = some ⟨b, off, none⟩ ∧ ∀ k, k < n → w.cell? ⟨b, off + k * 2, none⟩ = some (.int .i64 (A k)) ∧ w.cell? ⟨b, off + k * 2 + 1, none⟩ = some (.bool (D k))
theorem PutsAt.on {w w' : World} {a : Option Addr} {n : Nat} {A : Nat → Int} {D : Nat → Bool} (h : PutsAt w a n A D) (hb : Below w.heap.size w w') : PutsAt w' a n A D := by
  rcases h with h | ⟨b, off, e, hc⟩
  · exact .inl h
  · exact .inr ⟨b, off, e, fun k hk => ⟨(hb.cell (p := ⟨b, off + k * 2, none⟩) (block_lt_of_cell (hc k hk).1)).trans (hc k hk).1, (hb.cell (p := ⟨b, off + k * 2 + 1, none⟩) (block_lt_of_cell (hc k hk).2)).trans (hc k hk).2⟩⟩
theorem tx_app (a b : ByteArray) : tx (a ++ b) = tx a ++ tx b := by simp [tx]
theorem make_gen (w : World) (s : ByteArray) (hs : s.size ≤ 9223372036854775807) (me : Int) (hme : mE (tx s) = me) : Calls Try.prog 15 #[.string s] w fun e w' => ∃ (d : Option Addr) (k y : Nat) (nm : ByteArray) (q : List ByteArray), e = .returned (.tuple #[.slice d k y, .string nm, .int .i64 me]) ∧ StrsAt w' d q ∧ q.length = k ∧ k ≤ 1000 ∧ (me = 0 → q.map tx = (cps (tx s)).dropLast ∧ tx nm = (cps (tx s)).getLast?.getD []) ∧ Below w.heap.size w w' := by
  refine (make_any w s hs).mono ?_
  rintro e w' ⟨⟨rfl, h1, h2⟩ | ⟨g, cap, xs, nm, rfl, h1, h2, h3, h4, h5⟩, hb⟩
  · refine ⟨none, 0, 0, ⟨#[]⟩, [], by rw [hme], .inl rfl, rfl, by decide, fun h0 => ?_, hb⟩
    rw [mL, hme, if_pos h0] at h1
    rw [mN, hme, if_pos h0] at h2
    exact ⟨h1.symm, h2.symm⟩
  · have hm0 : me = 0 := by rw [← hme]; exact h1
    rw [mL, if_pos h1] at h3
    rw [mN, if_pos h1] at h4
    have hp0 : pE (tx s) = 0 := by
      have := h1
      unfold mE at this
      split at this
      · cases this
      · exact this
    have hl := (pE_fine hp0).1.2
    have hl2 := congrArg List.length h3
    rw [List.length_map, List.length_dropLast] at hl2
    refine ⟨_, _, _, nm, xs, by rw [hm0], h2.pre, rfl, by omega, fun _ => ⟨h3, h4⟩, hb⟩
/-- a text with nothing but slashes and dots more than s -/
structure Gd (s cur : Tx) : Prop where
  ok : pE cur = 0
  cp : cps cur = cps s
  la : last cur = [46] ∨ last cur = last s
theorem Gd.len {s cur : Tx} (h : Gd s cur) : cur.length ≤ 1024 := (tL_ok (pE_fine h.ok).2.2.2).1
theorem Gd.head {s cur : Tx} (h : Gd s cur) : cur.head? = some 47 := (pE_fine h.ok).2.1
set_option maxRecDepth 100000 in
set_option maxHeartbeats 8000000 in
theorem slashes_any (w : World) (s : ByteArray) (hs : s.size ≤ 9223372036854775807) (a : Option Addr) (n c : Nat) (A : Nat → Int) (D : Nat → Bool) (hpt : PutsAt w a n A D) (hn : n ≤ 9223372036854775806) (hA : ∀ k, -9223372036854775808 ≤ A k ∧ A k ≤ 9223372036854775807) :
    Calls Try.prog 5 #[.string s, .slice a n c] w fun e w' => e = .returned (.bool true) ∧ Below w.heap.size w w' := by
  by_cases hp : pE (tx s) = 0
  · obtain ⟨nn, hnn⟩ : ∃ nn, (cps (tx s)).length = nn := ⟨_, rfl⟩
    have CP0 : Hid (∀ wx, Calls Try.prog 12 #[.string s] wx fun e w' => ∃ a c xs, e = .returned (.tuple #[.slice a nn c, .int .i64 0]) ∧ StrsAt w' a xs ∧ xs.map tx = cps (tx s) ∧ xs.length = nn ∧ nn ≤ c ∧ Sl w' wx.heap.size (.slice a nn c) xs ∧ Below wx.heap.size wx w') := fun wx => parse_ok wx s nn hs hp hnn
    obtain ⟨me, hme⟩ : ∃ me, mE (tx s) = me := ⟨_, rfl⟩
    have CM0 : Hid (∀ wx, Calls Try.prog 15 #[.string s] wx fun e w' => ∃ (d : Option Addr) (k y : Nat) (nm : ByteArray) (q : List ByteArray), e = .returned (.tuple #[.slice d k y, .string nm, .int .i64 me]) ∧ StrsAt w' d q ∧ q.length = k ∧ k ≤ 1000 ∧ (me = 0 → q.map tx = (cps (tx s)).dropLast ∧ tx nm = (cps (tx s)).getLast?.getD []) ∧ Below wx.heap.size wx w') := fun wx => make_gen wx s hs me hme
    have HP : Hid (pE (tx s) = 0 ∧ (cps (tx s)).length = nn ∧ mE (tx s) = me) := ⟨hp, hnn, hme⟩
    clear hp hnn hme
    go_enter Try.func5, Try.ntmps5
    go_wp2_with (first
      | (go_at_call 8; refine (known_any _).mono ?_; rintro e w1 ⟨rfl, hb1⟩)
      | (go_at_call 12; refine (CP0.out _).mono ?_; rintro e w2 ⟨a2, c2, x2, rfl, s2, m2', l2, n2, v2, hb2⟩; have m2 : Hid (x2.map tx = cps (tx s) ∧ x2.length = nn) := ⟨m2', l2⟩; clear m2' l2)
      | (go_at_call 15; refine (CM0.out _).mono ?_; rintro e w3 ⟨d3, k3, y3, nm, q3, rfl, s3, l3', l3'', m3', hb3⟩; have m3 : Hid (q3.length = k3 ∧ k3 ≤ 1000 ∧ (me = 0 → q3.map tx = (cps (tx s)).dropLast ∧ tx nm = (cps (tx s)).getLast?.getD [])) := ⟨l3', l3'', m3'⟩; clear l3' l3'' m3')
      | (go_at_call 11; refine (num_any _ _).mono ?_; rintro e wn ⟨rfl, rfl⟩))
    have hpt3 := hpt.on (below_t hb1 (below_t hb2 hb3))
    have hat3 := s2.on hb3
    have HB3 : Hid (Below w.heap.size w w3) := below_t hb1 (below_t hb2 hb3)
    clear hpt hb1 hb2 hb3 s2 CP0 CM0 v2 n2
    go_loopw [0, 52] (fun s0 s52 wr => ∃ (k : Nat) (cur : ByteArray), k ≤ n ∧ s52 = .int .i64 (k : Int) ∧ s0 = .string cur ∧ Gd (tx s) (tx cur) ∧ Below w3.heap.size w3 wr) (fun _ s52 _ => n - (intOf s52).toNat)
    case atStart => exact ⟨0, s, Nat.zero_le _, rfl, rfl, ⟨HP.out.1, rfl, .inr rfl⟩, Below.refl _ _⟩
    case round =>
      obtain ⟨k, cur, hk, rfl, rfl, hg, hbr⟩ := hrel
      by_cases hlt : k < n
      · have hlt' : (k : Int) < (n : Int) := Int.ofNat_lt.2 hlt
        rcases hpt3.on hbr with h0 | ⟨b, off, rfl, hcc⟩
        · exact absurd h0 (by omega)
        obtain ⟨hcA, hcD⟩ := hcc k hlt
        have hA' := hA k
        obtain ⟨z, hz⟩ : ∃ z, A k = z := ⟨_, rfl⟩
        obtain ⟨dd, hdd⟩ : ∃ dd, D k = dd := ⟨_, rfl⟩
        rw [hz] at hcA hA'
        rw [hdd] at hcD
        clear hz hdd hcc
        have HKN : Hid (k + 1 ≤ n) := hlt
        have HKW : Hid (wrap64 ((k : Int) + 1) = (k : Int) + 1) := w64n (m := k + 1) (cap := 9223372036854775806) (Nat.le_trans hlt hn) (by decide)
        have HKM : Hid (n - (intOf (.int .i64 (wrap64 ((k : Int) + 1)))).toNat < n - (intOf (.int .i64 (k : Int))).toNat) := by
          show _ < _
          rw [HKW.out]
          simp [intOf]; omega
        go_wp2
        obtain ⟨w5, hw5⟩ : ∃ w5, wr.alloc (.cells #[.int .i64 z, .bool dd] 40) = w5 := ⟨_, rfl⟩
        have h5A : w5.cell? ⟨wr.heap.size, 0, none⟩ = some (.int .i64 z) := by rw [← hw5]; unfold World.cell?; rw [World.alloc_heap_new]; rfl
        have h5D : w5.cell? ⟨wr.heap.size, 1, none⟩ = some (.bool dd) := by rw [← hw5]; unfold World.cell?; rw [World.alloc_heap_new]; rfl
        have hb5 : Below wr.heap.size wr w5 := by rw [← hw5]; exact below_a wr _
        have h5z : wr.heap.size < w5.heap.size := by rw [← hw5]; simp
        rw [hw5]
        obtain ⟨B, hB⟩ : ∃ B, wr.heap.size = B := ⟨_, rfl⟩
        have hb35 : Below w3.heap.size w3 w5 := below_t hbr hb5
        rw [hB] at h5A h5D h5z ⊢
        have hlen := hg.len
        obtain ⟨N, hN⟩ : ∃ N, cur.size = N := ⟨_, rfl⟩
        have hNl : (tx cur).length = N := by rw [← size_tx]; exact hN
        have HG : Hid (Gd (tx s) (tx cur) ∧ Below w3.heap.size w3 w5 ∧ (tx cur).length = N ∧ N ≤ 1024) := ⟨hg, hb35, hNl, by rw [← hNl]; exact hlen⟩
        have hN1 : N ≤ 1024 := HG.out.2.2.2
        clear hw5 hcA hcD hg hbr hlen hNl hb5 hb35 hB
        go_loopw [12, 13] (fun s12 s13 wi => ∃ i : Nat, i ≤ N ∧ s13 = .int .i64 (i : Int) ∧ Oi wi w5.heap.size s12 (sls (tx cur) i) ∧ Below w5.heap.size w5 wi) (fun _ s13 _ => N - (intOf s13).toNat)
        case atStart => exact ⟨0, Nat.zero_le _, rfl, Oi.nil _ _, Below.refl _ _⟩
        case round =>
          obtain ⟨i, hi, rfl, hoi, hbi⟩ := hrel
          by_cases hil : i < N
          · have hil' : (i : Int) < (cur.size : Int) := by rw [hN]; omega
            have hi0 : (0 : Int) ≤ (i : Int) := by omega
            have hic : i < cur.size := by omega
            have hat := tx_at hic
            have hsl := sls_succ (tx cur) i
            have hsn := sls_len (tx cur) i
            rw [hat] at hsl
            by_cases h47 : cur[i] = 47
            · have hb47 : ((cur[i].toNat : Int) == 47) = true := by rw [h47]; rfl
              rw [h47] at hsl
              obtain ⟨g', cap', w', hrun, hoi', hbw⟩ := hoi.append i (by omega) hbi.size
              have HC : Hid (Oi w' w5.heap.size (.slice (some ⟨g', 0, none⟩) ((sls (tx cur) i).length + 1) cap') (sls (tx cur) (i + 1)) ∧ Below w5.heap.size w5 w') := ⟨by rw [hsl]; exact hoi', hbw w5 hbi⟩
              clear hoi' hbw hsl hat h47
              rcases hoi.cases with ⟨e0, rfl⟩ | ⟨g, cap, rfl, hgc⟩
              · rw [e0] at hrun HC
                clear hoi hbi e0
                go_wp2_with (at_builtin; refine wp_hrun rfl _ _ 41 rfl hrun ?_; clear hrun)
                go_roundw
                case rel => exact ⟨i + 1, by omega, by go_num, HC.out.1, HC.out.2⟩
                case measure => simp [intOf]; omega
              · clear hoi hbi hgc
                generalize (sls (tx cur) i).length = q at hrun HC hsn ⊢
                go_wp2_with (at_builtin; refine wp_hrun rfl _ _ 41 rfl hrun ?_; clear hrun)
                go_roundw
                case rel => exact ⟨i + 1, by omega, by go_num, HC.out.1, HC.out.2⟩
                case measure => simp [intOf]; omega
            · have hb47 : ((cur[i].toNat : Int) == 47) = false := by
                rw [beq_eq_false_iff_ne]
                exact fun h => h47 (u8_eq (n := 47) (by decide) h)
              have hsl2 : sls (tx cur) (i + 1) = sls (tx cur) i := by rw [hsl, if_neg (by simpa using h47), List.append_nil]
              have HC : Hid (sls (tx cur) (i + 1) = sls (tx cur) i) := hsl2
              clear hsl hsl2 hat h47
              go_wp2
              go_roundw
              case rel => exact ⟨i + 1, by omega, by go_num, by rw [HC.out]; exact hoi, hbi⟩
              case measure => simp [intOf]; omega
          · have hil' : ¬ (i : Int) < (cur.size : Int) := by rw [hN]; omega
            have ei : i = N := by omega
            subst ei
            have hq0 : 0 < (sls (tx cur) i).length := by
              have := sls_pos HG.out.1.head
              rw [HG.out.2.2.1] at this; exact this
            rcases hoi.cases with ⟨e0, _⟩ | ⟨g, cap, rfl, hgc⟩
            · rw [e0] at hq0; exact absurd hq0 (by decide)
            obtain ⟨q, hq⟩ : ∃ q, (sls (tx cur) i).length = q := ⟨_, rfl⟩
            rw [hq] at hq0 ⊢
            have hq1 : ¬ (q : Int) = 0 := by omega
            have hqn : q ≤ 1024 := by rw [← hq]; exact Nat.le_trans (sls_len _ _) hN1
            have hiA : wr.cell? ⟨B, 0, none⟩ = some (.int .i64 z) := (hbi.cell (p := ⟨B, 0, none⟩) h5z).trans h5A
            have hiD : wr.cell? ⟨B, 1, none⟩ = some (.bool dd) := (hbi.cell (p := ⟨B, 1, none⟩) h5z).trans h5D
            obtain ⟨r, hr1, hr2⟩ := rem_at z hq0 hqn
            obtain ⟨p, hpp⟩ : ∃ p, (sls (tx cur) i)[r]? = some p := ⟨_, List.getElem?_eq_getElem (by rw [hq]; exact hr1)⟩
            have hgp := hgc r p hpp
            have hpm := sls_mem (List.mem_of_getElem? hpp)
            obtain ⟨hcut1, hcut2⟩ := cut_at hpm.2
            have hr3 : (r : Int) < (q : Int) := Int.ofNat_lt.2 hr1
            have hqw : IntKind.u64.wrap (q : Int) = (q : Int) := by rw [IntKind.wrap_u64]; omega
            have hpi : p + 1 ≤ i := hpm.1
            have hpc : p + 1 ≤ cur.size := by rw [hN]; exact hpi
            have hp1 : wrap64 ((p : Int) + 1) = (p : Int) + 1 := w64n (m := p + 1) (cap := 1024) (Nat.le_trans hpi hN1) (by decide)
            have hp2 : (0 : Int) ≤ (p : Int) + 1 := Int.ofNat_le.2 (Nat.zero_le (p + 1))
            have hp3 : (p : Int) + 1 ≤ (cur.size : Int) := Int.ofNat_le.2 hpc
            have HK : Hid (tx cur = (tx cur).take p ++ 47 :: (tx cur).drop (p + 1) ∧ ((tx cur).take p).length = p ∧ p + 1 ≤ cur.size ∧ Below w3.heap.size w3 wr) := ⟨hcut1, hcut2, hpc, below_t HG.out.2.1 hbi⟩
            have HF : Hid (∀ (t : ByteArray), tx t = (tx cur).take (p + 1) ++ mr dd ++ (tx cur).drop (p + 1) → (tx cur).length + (mr dd).length ≤ 1024 → Gd (tx s) (tx t)) := by
              intro t ht hl
              obtain ⟨g1, g2, g3⟩ := HG.out.1
              have e : tx t = (tx cur).take p ++ 47 :: (mr dd ++ (tx cur).drop (p + 1)) := by
                rw [ht, List.take_add_one, hpm.2]
                simp
              have hcur : tx cur = (tx cur).take p ++ 47 :: (tx cur).drop (p + 1) := hcut1
              refine ⟨?_, ?_, ?_⟩
              · rw [e]; exact ins_ok (by rw [← hcur]; exact g1) (by rw [← hcur]; exact hl)
              · rw [e, ins_cps, ← hcur]; exact g2
              · rw [e]
                rcases ins_last dd ((tx cur).take p) ((tx cur).drop (p + 1)) with h | h
                · exact .inl h
                · rw [h, ← hcur]; exact g3
            have HN2 : Hid (cur.size = i) := hN
            have hcs : cur.size ≤ 1024 := by rw [hN]; exact hN1
            have HW : Hid (wrap64 ((cur.size : Int) + 1) = (cur.size : Int) + 1 ∧ wrap64 ((cur.size : Int) + 2) = (cur.size : Int) + 2) := ⟨w64n (m := cur.size + 1) (cap := 2048) (le2048 hcs (by decide)) (by decide), w64n (m := cur.size + 2) (cap := 2048) (le2048 hcs (by decide)) (by decide)⟩
            clear hcut1 hcut2 hpm hpp hgc hoi hq hr1 h5A h5D hbi hN hil hi hpi hN1 hA hA' hq0 hqn hn hlt hk hcs hpt3
            cases dd with
            | false =>
              by_cases hfit : cur.size + 1 ≤ 1024
              · have hf : ¬ (1024 : Int) < wrap64 ((cur.size : Int) + 1) := by rw [HW.out.1]; exact fit_no hfit
                have HZ : Hid (_ ∧ _) := cat_no hfit hpc
                have HL2 : Hid ((tx cur).length + (mr false).length ≤ 1024) := by rw [← size_tx]; exact hfit
                clear hfit hpc
                go_wp2
                obtain ⟨hz1, hz2⟩ := HZ.out
                go_region
                obtain ⟨t, ht⟩ : ∃ t, cur.extract 0 (p + 1) ++ ⟨#[47]⟩ ++ cur.extract (p + 1) cur.size = t := ⟨_, rfl⟩
                rw [ht]
                have hgt : Gd (tx s) (tx t) := HF.out t (by rw [← ht, tx_app, tx_app, tx_pre, tx_suf cur (p + 1) HK.out.2.2.1]; rfl) HL2.out
                clear ht
                go_wp2
                go_roundw
                case rel => exact ⟨k + 1, t, HKN.out, by rw [HKW.out]; rfl, rfl, hgt, below_t HK.out.2.2.2 ((Below.refl _ _).drew)⟩
                case measure => exact HKM.out
              · have hf : (1024 : Int) < wrap64 ((cur.size : Int) + 1) := by rw [HW.out.1]; exact fit_yes hfit
                have HGX : Hid (Gd (tx s) (tx cur) ∧ Below w3.heap.size w3 wr) := ⟨HG.out.1, HK.out.2.2.2⟩
                clear hfit hpc HF HK HG HW HN2 HKN HKW HKM
                have hpG := HGX.out.1
                have hcs2 : cur.size ≤ 9223372036854775807 := Nat.le_trans (Nat.le_of_eq (size_tx cur)) (Nat.le_trans hpG.len (by decide))
                have CP1 : Hid (∀ wx, Calls Try.prog 12 #[.string cur] wx fun e w' => ∃ d y, ∃ r : List ByteArray, e = .returned (.tuple #[.slice d nn y, .int .i64 0]) ∧ StrsAt w' d r ∧ r.map tx = x2.map tx ∧ Below wx.heap.size wx w') := fun wx => (parse_ok wx cur nn hcs2 hpG.ok (by rw [hpG.cp]; exact HP.out.2.1)).mono (by
                  rintro e w' ⟨d, y, r, rfl, h1, h2, h3, h4, h5, h6⟩
                  rw [hpG.cp, ← m2.out.1] at h2
                  exact ⟨d, y, r, rfl, h1, h2, h6⟩)
                have CS : Hid (∀ (wx : World) (d e : Option Addr) (m y z : Nat) (q r : List ByteArray), StrsAt wx d q → StrsAt wx e r → q.map tx = r.map tx → r.length = m → m ≤ 1000 → Calls Try.prog 14 #[.slice d m y, .slice e m z] wx fun e w' => e = .returned (.bool true) ∧ Below wx.heap.size wx w') := fun wx d e m y z q r h1 h2 h3 h4 h5 => (same_any wx d e m y m z q r h1 h2 (by have := len_of h3; rw [List.length_map] at this; omega) h4 (by omega)).mono (by
                  rintro e w' ⟨rfl, qq, rfl⟩
                  exact ⟨by rw [sameT_yes h3], ⟨rfl, rfl, rfl, Nat.le_refl _, fun _ _ => rfl⟩⟩)
                have HNN : Hid (nn ≤ 1000) := by have := (pE_fine HP.out.1).1.2; rw [HP.out.2.1] at this; exact Nat.le_trans this (by decide)
                have hat4 := hat3.on HGX.out.2
                have hs4 := s3.on HGX.out.2
                have CD : Hid (∀ wx, Calls Try.prog 17 #[.string cur] wx fun e w' => e = .returned (.bool (sm (tx cur))) ∧ wx = w') := fun wx => dotted_any wx cur hcs2 hpG.head
                have hmc : mE (tx cur) = if goes (last (tx cur)) then 1 else 0 := by unfold mE; rw [hpG.ok]
                have hms : me = if goes (last (tx s)) then 1 else 0 := by rw [← HP.out.2.2]; unfold mE; rw [HP.out.1]
                have T1 : Hid True := trivial
                by_cases hl46 : last (tx cur) = [46]
                · have CD1 : Hid (∀ wx, Calls Try.prog 17 #[.string cur] wx fun e w' => e = .returned (.bool true) ∧ wx = w') := fun wx => (CD.out wx).mono (by rw [show sm (tx cur) = true by unfold sm; simp [hl46]]; exact fun _ _ h => h)
                  have CM1 : Hid (∀ wx, Calls Try.prog 15 #[.string cur] wx fun e w' => e = .returned (.tuple #[.slice none 0 0, .string ⟨#[]⟩, .int .i64 1]) ∧ Below wx.heap.size wx w') := fun wx => make_bad wx cur 1 hcs2 (by rw [hmc, hl46]; rfl) (by decide)
                  clear hpG hcs2 CD hmc hms hl46
                  go_wp2_with (first
                    | (go_at_call 12; refine (CP1.out _).mono ?_; rintro e v1 ⟨d1, y1, r1, rfl, q1, k1', z1⟩; have k1 : Hid (r1.map tx = x2.map tx) := k1'; clear k1')
                    | (go_at_call 11; refine (num_any _ _).mono ?_; rintro e wn ⟨rfl, rfl⟩)
                    | (go_at_call 14; refine (CS.out _ _ _ _ _ _ r1 x2 q1 (hat4.on z1) k1.out m2.out.2 HNN.out).mono ?_; rintro e v2 ⟨rfl, z2⟩)
                    | (go_at_call 15; refine (CM1.out _).mono ?_; rintro e v3 ⟨rfl, z3⟩)
                    | (go_at_call 17; refine (CD1.out _).mono ?_; rintro e v4 ⟨rfl, rfl⟩))
                  go_ret
                  exact ⟨rfl, below_t HB3.out (below_t HGX.out.2 (below_t z1 (below_t z2 z3)))⟩
                · have hls : last (tx cur) = last (tx s) := by
                    rcases hpG.la with h | h
                    · exact absurd h hl46
                    · exact h
                  have CD1 : Hid (∀ wx, Calls Try.prog 17 #[.string cur] wx fun e w' => e = .returned (.bool false) ∧ wx = w') := fun wx => (CD.out wx).mono (by rw [show sm (tx cur) = false by unfold sm; simp [hl46]]; exact fun _ _ h => h)
                  rw [hls] at hmc
                  cases hgo : goes (last (tx s)) with
                  | true =>
                    rw [hgo] at hmc hms
                    have hm1 : me = 1 := hms
                    have CM1 : Hid (∀ wx, Calls Try.prog 15 #[.string cur] wx fun e w' => e = .returned (.tuple #[.slice none 0 0, .string ⟨#[]⟩, .int .i64 1]) ∧ Below wx.heap.size wx w') := fun wx => make_bad wx cur 1 hcs2 hmc (by decide)
                    subst hm1
                    clear hpG hcs2 CD hmc hms hl46 hls hgo
                    go_wp2_with (first
                      | (go_at_call 12; refine (CP1.out _).mono ?_; rintro e v1 ⟨d1, y1, r1, rfl, q1, k1', z1⟩; have k1 : Hid (r1.map tx = x2.map tx) := k1'; clear k1')
                      | (go_at_call 11; refine (num_any _ _).mono ?_; rintro e wn ⟨rfl, rfl⟩)
                      | (go_at_call 14; refine (CS.out _ _ _ _ _ _ r1 x2 q1 (hat4.on z1) k1.out m2.out.2 HNN.out).mono ?_; rintro e v2 ⟨rfl, z2⟩)
                      | (go_at_call 15; refine (CM1.out _).mono ?_; rintro e v3 ⟨rfl, z3⟩)
                      | (go_at_call 17; refine (CD1.out _).mono ?_; rintro e v4 ⟨rfl, rfl⟩))
                    go_ret
                    exact ⟨rfl, below_t HB3.out (below_t HGX.out.2 (below_t z1 (below_t z2 z3)))⟩
                  | false =>
                    rw [hgo] at hmc hms
                    have hm0 : me = 0 := hms
                    have CM1 : Hid (∀ wx, Calls Try.prog 15 #[.string cur] wx fun e w' => ∃ d y, ∃ q : List ByteArray, e = .returned (.tuple #[.slice d k3 y, .string nm, .int .i64 0]) ∧ StrsAt w' d q ∧ q.map tx = q3.map tx ∧ Below wx.heap.size wx w') := fun wx => (make_gen wx cur hcs2 0 hmc).mono (by
                      rintro e w' ⟨d, kk, y, nm', q, rfl, h1, h2, h3, h4, h5⟩
                      obtain ⟨e1, e2⟩ := h4 rfl
                      obtain ⟨f1, f2⟩ := m3.out.2.2 hm0
                      rw [hpG.cp] at e1 e2
                      have en : nm' = nm := tx_inj (by rw [e2, f2])
                      have eq : q.map tx = q3.map tx := by rw [e1, f1]
                      have ek : kk = k3 := by
                        have := congrArg List.length eq
                        rw [List.length_map, List.length_map, h2, m3.out.1] at this; exact this
                      subst en ek
                      exact ⟨d, y, q, rfl, h1, eq, h5⟩)
                    subst hm0
                    clear hpG hcs2 CD hmc hms hl46 hls hgo
                    go_wp2_with (first
                      | (go_at_call 12; refine (CP1.out _).mono ?_; rintro e v1 ⟨d1, y1, r1, rfl, q1, k1', z1⟩; have k1 : Hid (r1.map tx = x2.map tx) := k1'; clear k1')
                      | (go_at_call 11; refine (num_any _ _).mono ?_; rintro e wn ⟨rfl, rfl⟩)
                      | (go_at_call 14; have hh := T1.out; clear T1 hh; refine (CS.out _ _ _ _ _ _ r1 x2 q1 (hat4.on z1) k1.out m2.out.2 HNN.out).mono ?_; rintro e v2 ⟨rfl, z2⟩)
                      | (go_at_call 15; refine (CM1.out _).mono ?_; rintro e v3 ⟨d5, y5, q5, rfl, s5, k5', z3⟩; have k5 : Hid (q5.map tx = q3.map tx) := k5'; clear k5')
                      | (go_at_call 17; refine (CD1.out _).mono ?_; rintro e v4 ⟨rfl, rfl⟩)
                      | (go_at_call 14; refine (CS.out _ _ _ _ _ _ q5 q3 s5 (hs4.on (below_t z1 (below_t z2 z3))) k5.out m3.out.1 m3.out.2.1).mono ?_; rintro e v6 ⟨rfl, z6⟩))
                    go_ret
                    exact ⟨rfl, below_t HB3.out (below_t HGX.out.2 (below_t z1 (below_t z2 (below_t z3 z6))))⟩
            | true =>
              by_cases hfit : cur.size + 2 ≤ 1024
              · have hf : ¬ (1024 : Int) < wrap64 ((cur.size : Int) + 2) := by rw [HW.out.2]; exact fit_no hfit
                have HZ : Hid (_ ∧ _) := cat_no hfit hpc
                have HL2 : Hid ((tx cur).length + (mr true).length ≤ 1024) := by rw [← size_tx]; exact hfit
                clear hfit hpc
                go_wp2
                obtain ⟨hz1, hz2⟩ := HZ.out
                go_region
                obtain ⟨t, ht⟩ : ∃ t, cur.extract 0 (p + 1) ++ ⟨#[46, 47]⟩ ++ cur.extract (p + 1) cur.size = t := ⟨_, rfl⟩
                rw [ht]
                have hgt : Gd (tx s) (tx t) := HF.out t (by rw [← ht, tx_app, tx_app, tx_pre, tx_suf cur (p + 1) HK.out.2.2.1]; rfl) HL2.out
                clear ht
                go_wp2
                go_roundw
                case rel => exact ⟨k + 1, t, HKN.out, by rw [HKW.out]; rfl, rfl, hgt, below_t HK.out.2.2.2 ((Below.refl _ _).drew)⟩
                case measure => exact HKM.out
              · have hf : (1024 : Int) < wrap64 ((cur.size : Int) + 2) := by rw [HW.out.2]; exact fit_yes hfit
                have HGX : Hid (Gd (tx s) (tx cur) ∧ Below w3.heap.size w3 wr) := ⟨HG.out.1, HK.out.2.2.2⟩
                clear hfit hpc HF HK HG HW HN2 HKN HKW HKM
                have hpG := HGX.out.1
                have hcs2 : cur.size ≤ 9223372036854775807 := Nat.le_trans (Nat.le_of_eq (size_tx cur)) (Nat.le_trans hpG.len (by decide))
                have CP1 : Hid (∀ wx, Calls Try.prog 12 #[.string cur] wx fun e w' => ∃ d y, ∃ r : List ByteArray, e = .returned (.tuple #[.slice d nn y, .int .i64 0]) ∧ StrsAt w' d r ∧ r.map tx = x2.map tx ∧ Below wx.heap.size wx w') := fun wx => (parse_ok wx cur nn hcs2 hpG.ok (by rw [hpG.cp]; exact HP.out.2.1)).mono (by
                  rintro e w' ⟨d, y, r, rfl, h1, h2, h3, h4, h5, h6⟩
                  rw [hpG.cp, ← m2.out.1] at h2
                  exact ⟨d, y, r, rfl, h1, h2, h6⟩)
                have CS : Hid (∀ (wx : World) (d e : Option Addr) (m y z : Nat) (q r : List ByteArray), StrsAt wx d q → StrsAt wx e r → q.map tx = r.map tx → r.length = m → m ≤ 1000 → Calls Try.prog 14 #[.slice d m y, .slice e m z] wx fun e w' => e = .returned (.bool true) ∧ Below wx.heap.size wx w') := fun wx d e m y z q r h1 h2 h3 h4 h5 => (same_any wx d e m y m z q r h1 h2 (by have := len_of h3; rw [List.length_map] at this; omega) h4 (by omega)).mono (by
                  rintro e w' ⟨rfl, qq, rfl⟩
                  exact ⟨by rw [sameT_yes h3], ⟨rfl, rfl, rfl, Nat.le_refl _, fun _ _ => rfl⟩⟩)
                have HNN : Hid (nn ≤ 1000) := by have := (pE_fine HP.out.1).1.2; rw [HP.out.2.1] at this; exact Nat.le_trans this (by decide)
                have hat4 := hat3.on HGX.out.2
                have hs4 := s3.on HGX.out.2
                have CD : Hid (∀ wx, Calls Try.prog 17 #[.string cur] wx fun e w' => e = .returned (.bool (sm (tx cur))) ∧ wx = w') := fun wx => dotted_any wx cur hcs2 hpG.head
                have hmc : mE (tx cur) = if goes (last (tx cur)) then 1 else 0 := by unfold mE; rw [hpG.ok]
                have hms : me = if goes (last (tx s)) then 1 else 0 := by rw [← HP.out.2.2]; unfold mE; rw [HP.out.1]
                have T1 : Hid True := trivial
                by_cases hl46 : last (tx cur) = [46]
                · have CD1 : Hid (∀ wx, Calls Try.prog 17 #[.string cur] wx fun e w' => e = .returned (.bool true) ∧ wx = w') := fun wx => (CD.out wx).mono (by rw [show sm (tx cur) = true by unfold sm; simp [hl46]]; exact fun _ _ h => h)
                  have CM1 : Hid (∀ wx, Calls Try.prog 15 #[.string cur] wx fun e w' => e = .returned (.tuple #[.slice none 0 0, .string ⟨#[]⟩, .int .i64 1]) ∧ Below wx.heap.size wx w') := fun wx => make_bad wx cur 1 hcs2 (by rw [hmc, hl46]; rfl) (by decide)
                  clear hpG hcs2 CD hmc hms hl46
                  go_wp2_with (first
                    | (go_at_call 12; refine (CP1.out _).mono ?_; rintro e v1 ⟨d1, y1, r1, rfl, q1, k1', z1⟩; have k1 : Hid (r1.map tx = x2.map tx) := k1'; clear k1')
                    | (go_at_call 11; refine (num_any _ _).mono ?_; rintro e wn ⟨rfl, rfl⟩)
                    | (go_at_call 14; refine (CS.out _ _ _ _ _ _ r1 x2 q1 (hat4.on z1) k1.out m2.out.2 HNN.out).mono ?_; rintro e v2 ⟨rfl, z2⟩)
                    | (go_at_call 15; refine (CM1.out _).mono ?_; rintro e v3 ⟨rfl, z3⟩)
                    | (go_at_call 17; refine (CD1.out _).mono ?_; rintro e v4 ⟨rfl, rfl⟩))
                  go_ret
                  exact ⟨rfl, below_t HB3.out (below_t HGX.out.2 (below_t z1 (below_t z2 z3)))⟩
                · have hls : last (tx cur) = last (tx s) := by
                    rcases hpG.la with h | h
                    · exact absurd h hl46
                    · exact h
                  have CD1 : Hid (∀ wx, Calls Try.prog 17 #[.string cur] wx fun e w' => e = .returned (.bool false) ∧ wx = w') := fun wx => (CD.out wx).mono (by rw [show sm (tx cur) = false by unfold sm; simp [hl46]]; exact fun _ _ h => h)
                  rw [hls] at hmc
                  cases hgo : goes (last (tx s)) with
                  | true =>
                    rw [hgo] at hmc hms
                    have hm1 : me = 1 := hms
                    have CM1 : Hid (∀ wx, Calls Try.prog 15 #[.string cur] wx fun e w' => e = .returned (.tuple #[.slice none 0 0, .string ⟨#[]⟩, .int .i64 1]) ∧ Below wx.heap.size wx w') := fun wx => make_bad wx cur 1 hcs2 hmc (by decide)
                    subst hm1
                    clear hpG hcs2 CD hmc hms hl46 hls hgo
                    go_wp2_with (first
                      | (go_at_call 12; refine (CP1.out _).mono ?_; rintro e v1 ⟨d1, y1, r1, rfl, q1, k1', z1⟩; have k1 : Hid (r1.map tx = x2.map tx) := k1'; clear k1')
                      | (go_at_call 11; refine (num_any _ _).mono ?_; rintro e wn ⟨rfl, rfl⟩)
                      | (go_at_call 14; refine (CS.out _ _ _ _ _ _ r1 x2 q1 (hat4.on z1) k1.out m2.out.2 HNN.out).mono ?_; rintro e v2 ⟨rfl, z2⟩)
                      | (go_at_call 15; refine (CM1.out _).mono ?_; rintro e v3 ⟨rfl, z3⟩)
                      | (go_at_call 17; refine (CD1.out _).mono ?_; rintro e v4 ⟨rfl, rfl⟩))
                    go_ret
                    exact ⟨rfl, below_t HB3.out (below_t HGX.out.2 (below_t z1 (below_t z2 z3)))⟩
                  | false =>
                    rw [hgo] at hmc hms
                    have hm0 : me = 0 := hms
                    have CM1 : Hid (∀ wx, Calls Try.prog 15 #[.string cur] wx fun e w' => ∃ d y, ∃ q : List ByteArray, e = .returned (.tuple #[.slice d k3 y, .string nm, .int .i64 0]) ∧ StrsAt w' d q ∧ q.map tx = q3.map tx ∧ Below wx.heap.size wx w') := fun wx => (make_gen wx cur hcs2 0 hmc).mono (by
                      rintro e w' ⟨d, kk, y, nm', q, rfl, h1, h2, h3, h4, h5⟩
                      obtain ⟨e1, e2⟩ := h4 rfl
                      obtain ⟨f1, f2⟩ := m3.out.2.2 hm0
                      rw [hpG.cp] at e1 e2
                      have en : nm' = nm := tx_inj (by rw [e2, f2])
                      have eq : q.map tx = q3.map tx := by rw [e1, f1]
                      have ek : kk = k3 := by
                        have := congrArg List.length eq
                        rw [List.length_map, List.length_map, h2, m3.out.1] at this; exact this
                      subst en ek
                      exact ⟨d, y, q, rfl, h1, eq, h5⟩)
                    subst hm0
                    clear hpG hcs2 CD hmc hms hl46 hls hgo
                    go_wp2_with (first
                      | (go_at_call 12; refine (CP1.out _).mono ?_; rintro e v1 ⟨d1, y1, r1, rfl, q1, k1', z1⟩; have k1 : Hid (r1.map tx = x2.map tx) := k1'; clear k1')
                      | (go_at_call 11; refine (num_any _ _).mono ?_; rintro e wn ⟨rfl, rfl⟩)
                      | (go_at_call 14; have hh := T1.out; clear T1 hh; refine (CS.out _ _ _ _ _ _ r1 x2 q1 (hat4.on z1) k1.out m2.out.2 HNN.out).mono ?_; rintro e v2 ⟨rfl, z2⟩)
                      | (go_at_call 15; refine (CM1.out _).mono ?_; rintro e v3 ⟨d5, y5, q5, rfl, s5, k5', z3⟩; have k5 : Hid (q5.map tx = q3.map tx) := k5'; clear k5')
                      | (go_at_call 17; refine (CD1.out _).mono ?_; rintro e v4 ⟨rfl, rfl⟩)
                      | (go_at_call 14; refine (CS.out _ _ _ _ _ _ q5 q3 s5 (hs4.on (below_t z1 (below_t z2 z3))) k5.out m3.out.1 m3.out.2.1).mono ?_; rintro e v6 ⟨rfl, z6⟩))
                    go_ret
                    exact ⟨rfl, below_t HB3.out (below_t HGX.out.2 (below_t z1 (below_t z2 (below_t z3 z6))))⟩
      · have hlt' : ¬ (k : Int) < (n : Int) := fun h => hlt (Int.ofNat_lt.1 h)
        have HGX : Hid (Gd (tx s) (tx cur) ∧ Below w3.heap.size w3 wr) := ⟨hg, hbr⟩
        clear hg hbr hlt hpt3 hA hn hk
        have hpG := HGX.out.1
        have hcs2 : cur.size ≤ 9223372036854775807 := Nat.le_trans (Nat.le_of_eq (size_tx cur)) (Nat.le_trans hpG.len (by decide))
        have CP1 : Hid (∀ wx, Calls Try.prog 12 #[.string cur] wx fun e w' => ∃ d y, ∃ r : List ByteArray, e = .returned (.tuple #[.slice d nn y, .int .i64 0]) ∧ StrsAt w' d r ∧ r.map tx = x2.map tx ∧ Below wx.heap.size wx w') := fun wx => (parse_ok wx cur nn hcs2 hpG.ok (by rw [hpG.cp]; exact HP.out.2.1)).mono (by
          rintro e w' ⟨d, y, r, rfl, h1, h2, h3, h4, h5, h6⟩
          rw [hpG.cp, ← m2.out.1] at h2
          exact ⟨d, y, r, rfl, h1, h2, h6⟩)
        have CS : Hid (∀ (wx : World) (d e : Option Addr) (m y z : Nat) (q r : List ByteArray), StrsAt wx d q → StrsAt wx e r → q.map tx = r.map tx → r.length = m → m ≤ 1000 → Calls Try.prog 14 #[.slice d m y, .slice e m z] wx fun e w' => e = .returned (.bool true) ∧ Below wx.heap.size wx w') := fun wx d e m y z q r h1 h2 h3 h4 h5 => (same_any wx d e m y m z q r h1 h2 (by have := len_of h3; rw [List.length_map] at this; omega) h4 (by omega)).mono (by
          rintro e w' ⟨rfl, qq, rfl⟩
          exact ⟨by rw [sameT_yes h3], ⟨rfl, rfl, rfl, Nat.le_refl _, fun _ _ => rfl⟩⟩)
        have HNN : Hid (nn ≤ 1000) := by have := (pE_fine HP.out.1).1.2; rw [HP.out.2.1] at this; exact Nat.le_trans this (by decide)
        have hat4 := hat3.on HGX.out.2
        have hs4 := s3.on HGX.out.2
        have CD : Hid (∀ wx, Calls Try.prog 17 #[.string cur] wx fun e w' => e = .returned (.bool (sm (tx cur))) ∧ wx = w') := fun wx => dotted_any wx cur hcs2 hpG.head
        have hmc : mE (tx cur) = if goes (last (tx cur)) then 1 else 0 := by unfold mE; rw [hpG.ok]
        have hms : me = if goes (last (tx s)) then 1 else 0 := by rw [← HP.out.2.2]; unfold mE; rw [HP.out.1]
        have T1 : Hid True := trivial
        by_cases hl46 : last (tx cur) = [46]
        · have CD1 : Hid (∀ wx, Calls Try.prog 17 #[.string cur] wx fun e w' => e = .returned (.bool true) ∧ wx = w') := fun wx => (CD.out wx).mono (by rw [show sm (tx cur) = true by unfold sm; simp [hl46]]; exact fun _ _ h => h)
          have CM1 : Hid (∀ wx, Calls Try.prog 15 #[.string cur] wx fun e w' => e = .returned (.tuple #[.slice none 0 0, .string ⟨#[]⟩, .int .i64 1]) ∧ Below wx.heap.size wx w') := fun wx => make_bad wx cur 1 hcs2 (by rw [hmc, hl46]; rfl) (by decide)
          clear hpG hcs2 CD hmc hms hl46
          go_wp2_with (first
            | (go_at_call 12; refine (CP1.out _).mono ?_; rintro e v1 ⟨d1, y1, r1, rfl, q1, k1', z1⟩; have k1 : Hid (r1.map tx = x2.map tx) := k1'; clear k1')
            | (go_at_call 11; refine (num_any _ _).mono ?_; rintro e wn ⟨rfl, rfl⟩)
            | (go_at_call 14; refine (CS.out _ _ _ _ _ _ r1 x2 q1 (hat4.on z1) k1.out m2.out.2 HNN.out).mono ?_; rintro e v2 ⟨rfl, z2⟩)
            | (go_at_call 15; refine (CM1.out _).mono ?_; rintro e v3 ⟨rfl, z3⟩)
            | (go_at_call 17; refine (CD1.out _).mono ?_; rintro e v4 ⟨rfl, rfl⟩))
          go_ret
          exact ⟨rfl, below_t HB3.out (below_t HGX.out.2 (below_t z1 (below_t z2 z3)))⟩
        · have hls : last (tx cur) = last (tx s) := by
            rcases hpG.la with h | h
            · exact absurd h hl46
            · exact h
          have CD1 : Hid (∀ wx, Calls Try.prog 17 #[.string cur] wx fun e w' => e = .returned (.bool false) ∧ wx = w') := fun wx => (CD.out wx).mono (by rw [show sm (tx cur) = false by unfold sm; simp [hl46]]; exact fun _ _ h => h)
          rw [hls] at hmc
          cases hgo : goes (last (tx s)) with
          | true =>
            rw [hgo] at hmc hms
            have hm1 : me = 1 := hms
            have CM1 : Hid (∀ wx, Calls Try.prog 15 #[.string cur] wx fun e w' => e = .returned (.tuple #[.slice none 0 0, .string ⟨#[]⟩, .int .i64 1]) ∧ Below wx.heap.size wx w') := fun wx => make_bad wx cur 1 hcs2 hmc (by decide)
            subst hm1
            clear hpG hcs2 CD hmc hms hl46 hls hgo
            go_wp2_with (first
              | (go_at_call 12; refine (CP1.out _).mono ?_; rintro e v1 ⟨d1, y1, r1, rfl, q1, k1', z1⟩; have k1 : Hid (r1.map tx = x2.map tx) := k1'; clear k1')
              | (go_at_call 11; refine (num_any _ _).mono ?_; rintro e wn ⟨rfl, rfl⟩)
              | (go_at_call 14; refine (CS.out _ _ _ _ _ _ r1 x2 q1 (hat4.on z1) k1.out m2.out.2 HNN.out).mono ?_; rintro e v2 ⟨rfl, z2⟩)
              | (go_at_call 15; refine (CM1.out _).mono ?_; rintro e v3 ⟨rfl, z3⟩)
              | (go_at_call 17; refine (CD1.out _).mono ?_; rintro e v4 ⟨rfl, rfl⟩))
            go_ret
            exact ⟨rfl, below_t HB3.out (below_t HGX.out.2 (below_t z1 (below_t z2 z3)))⟩
          | false =>
            rw [hgo] at hmc hms
            have hm0 : me = 0 := hms
            have CM1 : Hid (∀ wx, Calls Try.prog 15 #[.string cur] wx fun e w' => ∃ d y, ∃ q : List ByteArray, e = .returned (.tuple #[.slice d k3 y, .string nm, .int .i64 0]) ∧ StrsAt w' d q ∧ q.map tx = q3.map tx ∧ Below wx.heap.size wx w') := fun wx => (make_gen wx cur hcs2 0 hmc).mono (by
              rintro e w' ⟨d, kk, y, nm', q, rfl, h1, h2, h3, h4, h5⟩
              obtain ⟨e1, e2⟩ := h4 rfl
              obtain ⟨f1, f2⟩ := m3.out.2.2 hm0
              rw [hpG.cp] at e1 e2
              have en : nm' = nm := tx_inj (by rw [e2, f2])
              have eq : q.map tx = q3.map tx := by rw [e1, f1]
              have ek : kk = k3 := by
                have := congrArg List.length eq
                rw [List.length_map, List.length_map, h2, m3.out.1] at this; exact this
              subst en ek
              exact ⟨d, y, q, rfl, h1, eq, h5⟩)
            subst hm0
            clear hpG hcs2 CD hmc hms hl46 hls hgo
            go_wp2_with (first
              | (go_at_call 12; refine (CP1.out _).mono ?_; rintro e v1 ⟨d1, y1, r1, rfl, q1, k1', z1⟩; have k1 : Hid (r1.map tx = x2.map tx) := k1'; clear k1')
              | (go_at_call 11; refine (num_any _ _).mono ?_; rintro e wn ⟨rfl, rfl⟩)
              | (go_at_call 14; have hh := T1.out; clear T1 hh; refine (CS.out _ _ _ _ _ _ r1 x2 q1 (hat4.on z1) k1.out m2.out.2 HNN.out).mono ?_; rintro e v2 ⟨rfl, z2⟩)
              | (go_at_call 15; refine (CM1.out _).mono ?_; rintro e v3 ⟨d5, y5, q5, rfl, s5, k5', z3⟩; have k5 : Hid (q5.map tx = q3.map tx) := k5'; clear k5')
              | (go_at_call 17; refine (CD1.out _).mono ?_; rintro e v4 ⟨rfl, rfl⟩)
              | (go_at_call 14; refine (CS.out _ _ _ _ _ _ q5 q3 s5 (hs4.on (below_t z1 (below_t z2 z3))) k5.out m3.out.1 m3.out.2.1).mono ?_; rintro e v6 ⟨rfl, z6⟩))
            go_ret
            exact ⟨rfl, below_t HB3.out (below_t HGX.out.2 (below_t z1 (below_t z2 (below_t z3 z6))))⟩
  · obtain ⟨m, hm⟩ : ∃ m, pE (tx s) = m := ⟨_, rfl⟩
    rw [hm] at hp
    have C1 := fun wx => parse_bad wx s m hs hm hp
    have hm2 : m = 1 ∨ m = 130 := by
      have := pE_cases (tx s)
      rw [hm] at this
      rcases this with h | h | h
      · exact absurd h hp
      · exact .inl h
      · exact .inr h
    clear hm hp hpt hA
    rcases hm2 with rfl | rfl
    all_goals
      go_enter Try.func5, Try.ntmps5
      go_wp2_with (first
        | (go_at_call 8; refine (known_any _).mono ?_; rintro e w1 ⟨rfl, hb1⟩)
        | (go_at_call 12; refine (C1 _).mono ?_; rintro e w2 ⟨rfl, hb2⟩)
        | (go_at_call 11; refine (num_any _ _).mono ?_; rintro e wn ⟨rfl, rfl⟩))
      go_ret
      exact ⟨rfl, below_t hb1 hb2⟩
end Go.Proofs.Ytkmadcjbeiigmaa

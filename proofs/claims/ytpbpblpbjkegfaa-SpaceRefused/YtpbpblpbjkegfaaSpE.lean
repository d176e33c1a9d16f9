import Derived.Test.YtpbpblpbjkegfaaKSpD
namespace Go.Proofs.Ytpbpblpbjkegfaa
open Go.RowKit Go.Maps Rec

set_option maxRecDepth 100000 in
set_option maxHeartbeats 8000000 in
theorem eachBmF (w0 wq w : World) (D : Dk) (T : Tx) (n : Nat) (h : Spc w0 wq D T n) (hq : Below wq.heap.size wq w) (G Db S : Nat) (z : Int) (hC : Cau w G Db S 33 (nD n) n z) (hS : wq.heap.size ≤ S) (hz : 0 ≤ z ∧ z ≤ 1000) :
    Calls Try.prog 49 #[.pointer (some ⟨T.t, 0, none⟩), geoV n, .func (.func 50) #[] #[.pointer (some ⟨G, 0, none⟩), .pointer (some ⟨Db, 0, none⟩)]] w fun e w' => e = .returned (.int .i64 0) ∧ BoxI w S (z + (ct (fd (nD n) n (bmp D T)) (4096 * nM n) : Nat)) w' := by
  have HN := nM_bd h.lo h.hi
  have hnl := h.lo
  have hnh := h.hi
  have HP : Hid (Spc w0 wq D T n ∧ Below wq.heap.size wq w ∧ Cau w G Db S 33 (nD n) n z) := ⟨h, hq, hC⟩
  have hSl := block_lt_of_cell hC.s
  dsimp only at hSl
  clear h hq hC
  obtain ⟨M, hM⟩ : ∃ M, nM n = M := ⟨_, rfl⟩
  obtain ⟨lo, hlo⟩ : ∃ lo, nD n = lo := ⟨_, rfl⟩
  rw [hM, hlo] at HN
  rw [hlo] at HP
  obtain ⟨t0, ht0⟩ : ∃ t0, T.t = t0 := ⟨_, rfl⟩
  have HT0 : Hid (T.t = t0) := ht0
  obtain ⟨gi, hgi⟩ : ∃ gi : Int, gI (n : Int) = gi := ⟨_, rfl⟩
  obtain ⟨gd, hgd⟩ : ∃ gd : Int, gD (n : Int) = gd := ⟨_, rfl⟩
  obtain ⟨gc, hgc⟩ : ∃ gc : Int, gC (n : Int) = gc := ⟨_, rfl⟩
  have hgi' : gi - 98 = (M : Int) := by rw [← hgi, gI_nat, hM]; omega
  unfold geoV
  rw [hgi, hgd, hgc, ht0, hM, hlo]
  have HM : Hid (nM n = M) := hM
  clear ht0 hgi hgd hgc hM hlo
  obtain ⟨w1, hw1⟩ : ∃ w1, w.alloc (.cells #[.int .i64 (n : Int), .int .i64 98, .int .i64 gi, .int .i64 gd, .int .i64 gc] 28) = w1 := ⟨_, rfl⟩
  have H1 : Hid (Below w.heap.size w w1 ∧ w1.heap[w.heap.size]? = some (.cells #[.int .i64 (n : Int), .int .i64 98, .int .i64 gi, .int .i64 gd, .int .i64 gc] 28 (0, 0))) := by
    rw [← hw1]; exact ⟨(Below.refl _ _).alloc (Nat.le_refl _) _, heap_alloc_new _ _⟩
  have hs1 : w1.heap.size = w.heap.size + 1 := by rw [← hw1]; simp
  have hcc : ∀ j, w1.cell? ⟨w.heap.size, j, none⟩ = #[.int .i64 (n : Int), .int .i64 98, .int .i64 gi, .int .i64 gd, .int .i64 gc][j]? := fun j => cell_of_row _ _ _ _ _ _ H1.out.2
  have hcA : w1.cell? ⟨w.heap.size, 1, none⟩ = some (.int .i64 98) := hcc 1
  have hcB : w1.cell? ⟨w.heap.size, 2, none⟩ = some (.int .i64 gi) := hcc 2
  clear hcc
  have box0 : BoxI w1 S z w1 := ⟨(H1.out.1.cell (p := ⟨S, 0, none⟩) hSl).trans HP.out.2.2.s, (frozen_blk (H1.out.1.block S hSl)).trans HP.out.2.2.sf, Fr.refl _ _⟩
  go_enter Try.func49, Try.ntmps49
  go_wp2
  go_loopw [15] (fun s15 wr => ∃ k : Nat, k ≤ M ∧ s15 = .int .i64 (k : Int) ∧ BoxI w1 S (z + (ct (fd lo n (bmp D T)) (4096 * k) : Nat)) wr) (fun s15 _ => M - (intOf s15).toNat)
  case atStart => exact ⟨0, Nat.zero_le _, rfl, (by have h9 := box0; rw [← Int.add_zero z] at h9; exact h9)⟩
  case round =>
    obtain ⟨k, hk, rfl, hI⟩ := hrel
    have HI : Hid (BoxI w1 S (z + (ct (fd lo n (bmp D T)) (4096 * k) : Nat)) wr) := hI
    have HX : Hid (Below wq.heap.size wq wr) := by
      have h1 := HP.out.2.1.size
      have h2 := H1.out.1.size
      exact (HP.out.2.1.trans (H1.out.1.mono h1)).trans (hI.fr.below _ (fun k hk => by rcases hk with e | e <;> omega) (by omega))
    have hcb : wr.cell? ⟨w.heap.size, 1, none⟩ = some (.int .i64 98) := hI.fr.cell hcA (fun e => by dsimp only at e; omega)
    clear hI
    by_cases hlt : k < M
    · have hlt' : (k : Int) < (M : Int) := by omega
      obtain ⟨F0, hF0⟩ : ∃ F0 : Nat, 4096 * k = F0 := ⟨_, rfl⟩
      have eF : (k : Int) * 4096 = (F0 : Int) := by omega
      have e98 : (98 : Int) + (k : Int) = ((98 + k : Nat) : Int) := by omega
      obtain ⟨K9, hK9⟩ : ∃ K9 : Nat, 98 + k = K9 := ⟨_, rfl⟩
      rw [hK9] at e98
      have HR : Hid (Calls Try.prog 12 #[.pointer (some ⟨t0, 0, none⟩), .int .i64 (K9 : Int)] wr fun e w' => ∃ g cap, e = .returned (.tuple #[.slice (some ⟨g, 0, none⟩) 512 cap, .int .i64 0]) ∧ wr.heap.size ≤ g ∧ OwnB w' g cap (bmp D T k) ∧ Below wr.heap.size wr w') := by
        have := (HP.out.1.on HX.out).read (98 + k) (by omega)
        rw [HT0.out, hK9] at this
        rw [bmp, hK9]
        exact this
      have HG : Hid (∀ g cap w', OwnB w' g cap (bmp D T k) → Below wr.heap.size wr w' → Calls Try.prog 50 #[.int .i64 (F0 : Int), .slice (some ⟨g, 0, none⟩) 512 cap, .pointer (some ⟨G, 0, none⟩), .pointer (some ⟨Db, 0, none⟩)] w' fun e w3 => e = .returned (.bool true) ∧ BoxI w1 S (z + (ct (fd lo n (bmp D T)) (4096 * (k + 1)) : Nat)) w3) := fun g cap w' ho hb => by
        have hc := ct_le (fd lo n (bmp D T)) (4096 * k)
        refine (gatF_any w' G Db S lo n (z + (ct (fd lo n (bmp D T)) (4096 * k) : Nat)) (HP.out.2.2.mv H1.out.1 HI.out hb) F0 ⟨g, 0, none⟩ cap (bmp D T k) ho.bytes (HP.out.1.bm.len k (by have h9 := HM.out; omega)) (by omega) (by omega) (by omega) (by omega)).mono ?_
        rintro e w3 ⟨rfl, hx⟩
        refine ⟨rfl, ?_⟩
        have := HI.out.comp hb hx
        rw [ct_blk, Int.natCast_add, ← Int.add_assoc, hF0]
        rw [hF0] at this
        exact this
      clear hF0 hK9
      go_wp2_with (first
        | (go_at_call 12; refine HR.out.mono ?_; rintro e w2 ⟨g, cap, rfl, h1, h2, h3⟩; have H3 : Hid (OwnB w2 g cap (bmp D T k) ∧ Below wr.heap.size wr w2) := ⟨h2, h3⟩; clear h1 h2 h3 HR)
        | (go_at_call 50; refine (HG.out _ _ _ H3.out.1 H3.out.2).mono ?_; rintro e w3 ⟨rfl, hx⟩; have H4 : Hid (BoxI w1 S (z + (ct (fd lo n (bmp D T)) (4096 * (k + 1)) : Nat)) w3) := hx; clear hx HG))
      go_roundw
      case rel => exact ⟨k + 1, by omega, by go_num, H4.out⟩
      case measure => simp [intOf]; omega
    · have hlt' : ¬ (k : Int) < (M : Int) := by omega
      go_wp2
      go_ret
      have e : k = M := by omega
      subst e
      exact ⟨rfl, HI.out.cell, HI.out.frozen, (below_fr H1.out.1 _).trans HI.out.fr (fun k hk => by rcases hk with e | e; exact .inl (.inl e); exact .inr (by omega))⟩
set_option maxRecDepth 100000 in
set_option maxHeartbeats 8000000 in
theorem eachBmL (w0 wq w : World) (D : Dk) (T : Tx) (n : Nat) (h : Spc w0 wq D T n) (hq : Below wq.heap.size wq w) (G Db S : Nat) (z : Int) (hC : Cau w G Db S 40 (nD n) n z) (hS : wq.heap.size ≤ S) (hz : 0 ≤ z ∧ z ≤ 1000) :
    Calls Try.prog 49 #[.pointer (some ⟨T.t, 0, none⟩), geoV n, .func (.func 50) #[] #[.pointer (some ⟨G, 0, none⟩), .pointer (some ⟨Db, 0, none⟩)]] w fun e w' => e = .returned (.int .i64 0) ∧ ((ct (fd (nD n) n (bmp D T)) (4096 * nM n) = 0 ∧ BoxI w S z w') ∨ ∃ i : Nat, IsLo (fd (nD n) n (bmp D T)) i ∧ BoxI w S (i : Int) w') := by
  have HN := nM_bd h.lo h.hi
  have hnl := h.lo
  have hnh := h.hi
  have HP : Hid (Spc w0 wq D T n ∧ Below wq.heap.size wq w ∧ Cau w G Db S 40 (nD n) n z) := ⟨h, hq, hC⟩
  have hSl := block_lt_of_cell hC.s
  dsimp only at hSl
  clear h hq hC
  obtain ⟨M, hM⟩ : ∃ M, nM n = M := ⟨_, rfl⟩
  obtain ⟨lo, hlo⟩ : ∃ lo, nD n = lo := ⟨_, rfl⟩
  rw [hM, hlo] at HN
  rw [hlo] at HP
  obtain ⟨t0, ht0⟩ : ∃ t0, T.t = t0 := ⟨_, rfl⟩
  have HT0 : Hid (T.t = t0) := ht0
  obtain ⟨gi, hgi⟩ : ∃ gi : Int, gI (n : Int) = gi := ⟨_, rfl⟩
  obtain ⟨gd, hgd⟩ : ∃ gd : Int, gD (n : Int) = gd := ⟨_, rfl⟩
  obtain ⟨gc, hgc⟩ : ∃ gc : Int, gC (n : Int) = gc := ⟨_, rfl⟩
  have hgi' : gi - 98 = (M : Int) := by rw [← hgi, gI_nat, hM]; omega
  unfold geoV
  rw [hgi, hgd, hgc, ht0, hM, hlo]
  have HM : Hid (nM n = M) := hM
  clear ht0 hgi hgd hgc hM hlo
  obtain ⟨w1, hw1⟩ : ∃ w1, w.alloc (.cells #[.int .i64 (n : Int), .int .i64 98, .int .i64 gi, .int .i64 gd, .int .i64 gc] 28) = w1 := ⟨_, rfl⟩
  have H1 : Hid (Below w.heap.size w w1 ∧ w1.heap[w.heap.size]? = some (.cells #[.int .i64 (n : Int), .int .i64 98, .int .i64 gi, .int .i64 gd, .int .i64 gc] 28 (0, 0))) := by
    rw [← hw1]; exact ⟨(Below.refl _ _).alloc (Nat.le_refl _) _, heap_alloc_new _ _⟩
  have hs1 : w1.heap.size = w.heap.size + 1 := by rw [← hw1]; simp
  have hcc : ∀ j, w1.cell? ⟨w.heap.size, j, none⟩ = #[.int .i64 (n : Int), .int .i64 98, .int .i64 gi, .int .i64 gd, .int .i64 gc][j]? := fun j => cell_of_row _ _ _ _ _ _ H1.out.2
  have hcA : w1.cell? ⟨w.heap.size, 1, none⟩ = some (.int .i64 98) := hcc 1
  have hcB : w1.cell? ⟨w.heap.size, 2, none⟩ = some (.int .i64 gi) := hcc 2
  clear hcc
  have box0 : BoxI w1 S z w1 := ⟨(H1.out.1.cell (p := ⟨S, 0, none⟩) hSl).trans HP.out.2.2.s, (frozen_blk (H1.out.1.block S hSl)).trans HP.out.2.2.sf, Fr.refl _ _⟩
  go_enter Try.func49, Try.ntmps49
  go_wp2
  go_loopw [15] (fun s15 wr => ∃ k : Nat, k ≤ M ∧ s15 = .int .i64 (k : Int) ∧ ct (fd lo n (bmp D T)) (4096 * k) = 0 ∧ BoxI w1 S z wr) (fun s15 _ => M - (intOf s15).toNat)
  case atStart => exact ⟨0, Nat.zero_le _, rfl, rfl, box0⟩
  case round =>
    obtain ⟨k, hk, rfl, h0, hI⟩ := hrel
    have HI : Hid (ct (fd lo n (bmp D T)) (4096 * k) = 0 ∧ BoxI w1 S z wr) := ⟨h0, hI⟩
    have HX : Hid (Below wq.heap.size wq wr) := by
      have h1 := HP.out.2.1.size
      have h2 := H1.out.1.size
      exact (HP.out.2.1.trans (H1.out.1.mono h1)).trans (hI.fr.below _ (fun k hk => by rcases hk with e | e <;> omega) (by omega))
    have hcb : wr.cell? ⟨w.heap.size, 1, none⟩ = some (.int .i64 98) := hI.fr.cell hcA (fun e => by dsimp only at e; omega)
    clear hI h0
    by_cases hlt : k < M
    · have hlt' : (k : Int) < (M : Int) := by omega
      obtain ⟨F0, hF0⟩ : ∃ F0 : Nat, 4096 * k = F0 := ⟨_, rfl⟩
      have eF : (k : Int) * 4096 = (F0 : Int) := by omega
      have e98 : (98 : Int) + (k : Int) = ((98 + k : Nat) : Int) := by omega
      obtain ⟨K9, hK9⟩ : ∃ K9 : Nat, 98 + k = K9 := ⟨_, rfl⟩
      rw [hK9] at e98
      have HR : Hid (Calls Try.prog 12 #[.pointer (some ⟨t0, 0, none⟩), .int .i64 (K9 : Int)] wr fun e w' => ∃ g cap, e = .returned (.tuple #[.slice (some ⟨g, 0, none⟩) 512 cap, .int .i64 0]) ∧ wr.heap.size ≤ g ∧ OwnB w' g cap (bmp D T k) ∧ Below wr.heap.size wr w') := by
        have := (HP.out.1.on HX.out).read (98 + k) (by omega)
        rw [HT0.out, hK9] at this
        rw [bmp, hK9]
        exact this
      have HG : Hid (∀ g cap w', OwnB w' g cap (bmp D T k) → Below wr.heap.size wr w' → Calls Try.prog 50 #[.int .i64 (F0 : Int), .slice (some ⟨g, 0, none⟩) 512 cap, .pointer (some ⟨G, 0, none⟩), .pointer (some ⟨Db, 0, none⟩)] w' fun e w3 => (e = .returned (.bool true) ∧ ct (fd lo n (bmp D T)) (4096 * (k + 1)) = 0 ∧ BoxI w1 S z w3) ∨ (e = .returned (.bool false) ∧ ∃ i : Nat, IsLo (fd lo n (bmp D T)) i ∧ BoxI w1 S (i : Int) w3)) := fun g cap w' ho hb => by
        have hc := ct_le (fd lo n (bmp D T)) (4096 * k)
        refine (gatL_any w' G Db S lo n z (HP.out.2.2.mv H1.out.1 HI.out.2 hb) F0 ⟨g, 0, none⟩ cap (bmp D T k) ho.bytes (HP.out.1.bm.len k (by have h9 := HM.out; omega)) (by omega) (by omega) (by omega) (by omega)).mono ?_
        rintro e w3 (⟨rfl, h4, hx⟩ | ⟨rfl, j, hj, hl, hx⟩)
        · exact .inl ⟨rfl, by rw [ct_blk, HI.out.1, hF0, h4], HI.out.2.comp hb hx⟩
        · rw [← hF0] at hl hx
          exact .inr ⟨rfl, _, lo_blk HI.out.1 hj hl, HI.out.2.comp hb hx⟩
      clear hF0 hK9
      go_wp2_with (first
        | (go_at_call 12; refine HR.out.mono ?_; rintro e w2 ⟨g, cap, rfl, h1, h2, h3⟩; have H3 : Hid (OwnB w2 g cap (bmp D T k) ∧ Below wr.heap.size wr w2) := ⟨h2, h3⟩; clear h1 h2 h3 HR)
        | (go_at_call 50; refine (HG.out _ _ _ H3.out.1 H3.out.2).mono ?_; rintro e w3 (⟨rfl, hx, hx2⟩ | ⟨rfl, hx⟩); have H4 : Hid (ct (fd lo n (bmp D T)) (4096 * (k + 1)) = 0 ∧ BoxI w1 S z w3) := ⟨hx, hx2⟩; clear hx hx2 HG; rotate_left; have H5 : Hid (∃ i : Nat, IsLo (fd lo n (bmp D T)) i ∧ BoxI w1 S (i : Int) w3) := hx; clear hx HG; rotate_left))
      · go_roundw
        case rel => exact ⟨k + 1, by omega, by go_num, H4.out⟩
        case measure => simp [intOf]; omega
      · go_ret
        obtain ⟨i, hi1, hi2⟩ := H5.out
        exact ⟨rfl, .inr ⟨i, hi1, hi2.cell, hi2.frozen, (below_fr H1.out.1 _).trans hi2.fr (fun k hk => by rcases hk with e | e; exact .inl (.inl e); exact .inr (by omega))⟩⟩
    · have hlt' : ¬ (k : Int) < (M : Int) := by omega
      go_wp2
      go_ret
      have e : k = M := by omega
      subst e
      exact ⟨rfl, .inl ⟨HI.out.1, HI.out.2.cell, HI.out.2.frozen, (below_fr H1.out.1 _).trans HI.out.2.fr (fun k hk => by rcases hk with e | e; exact .inl (.inl e); exact .inr (by omega))⟩⟩
end Go.Proofs.Ytpbpblpbjkegfaa

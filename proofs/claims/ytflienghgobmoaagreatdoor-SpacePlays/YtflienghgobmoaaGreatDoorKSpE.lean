import Derived.Test.YtflienghgobmoaaGreatDoorKSpC
namespace Go.Proofs.YtflienghgobmoaaGreatDoor
open Go.RowKit Go.Maps Rec

set_option maxRecDepth 100000 in
set_option maxHeartbeats 8000000 in
theorem eachBmF (w0 wq w : World) (D : Dk) (T : Tx) (n : Nat) (h : Spc w0 wq D T n) (hq : Below wq.heap.size wq w) (G Db S : Nat) (z : Int) (hC : Cau w G Db S 76 (nD n) n z) (hS : wq.heap.size ≤ S) (hz : 0 ≤ z ∧ z ≤ 1000) (K : Nat) (hK : Kpre D T n K) :
    Calls Tryz.prog 111 #[.pointer (some ⟨T.t, 0, none⟩), geoV n, .func (.func 112) #[] #[.pointer (some ⟨G, 0, none⟩), .pointer (some ⟨Db, 0, none⟩)]] w fun e w' => e = .returned (.int .i64 (eK n K)) ∧ BoxI w S (z + (ct (fd (nD n) n (bmp D T)) (4096 * K) : Nat)) w' := by
  have HN := nM_bd h.lo h.hi
  have hnl := h.lo
  have hnh := h.hi
  have HKp : Hid (Kpre D T n K) := hK
  have hKM : K ≤ nM n := hK.le
  have hEK : (K < nM n → eK n K = 30) ∧ (K = nM n → eK n K = 0) := ⟨fun h => by unfold eK; rw [if_neg (by omega)], fun h => by unfold eK; rw [if_pos h]⟩
  clear hK
  have HP : Hid (Spc w0 wq D T n ∧ Below wq.heap.size wq w ∧ Cau w G Db S 76 (nD n) n z) := ⟨h, hq, hC⟩
  have hSl := block_lt_of_cell hC.s
  dsimp only at hSl
  clear h hq hC
  obtain ⟨M, hM⟩ : ∃ M, nM n = M := ⟨_, rfl⟩
  obtain ⟨lo, hlo⟩ : ∃ lo, nD n = lo := ⟨_, rfl⟩
  rw [hM, hlo] at HN
  rw [hM] at hKM hEK
  have HEK : Hid ((K < M → eK n K = 30) ∧ (K = M → eK n K = 0)) := hEK
  clear hEK
  rw [hlo] at HP
  obtain ⟨t0, ht0⟩ : ∃ t0, T.t = t0 := ⟨_, rfl⟩
  have HT0 : Hid (T.t = t0) := ht0
  obtain ⟨gi, hgi⟩ : ∃ gi : Int, gI (n : Int) = gi := ⟨_, rfl⟩
  obtain ⟨gd, hgd⟩ : ∃ gd : Int, gD (n : Int) = gd := ⟨_, rfl⟩
  obtain ⟨gc, hgc⟩ : ∃ gc : Int, gC (n : Int) = gc := ⟨_, rfl⟩
  have hgi' : gi - 98 = (M : Int) := by rw [← hgi, gI_nat, hM]; omega
  unfold geoV
  rw [hgi, hgd, hgc, ht0, hlo]
  have HM : Hid (nM n = M) := hM
  clear ht0 hgi hgd hgc hM hlo
  obtain ⟨w1, hw1⟩ : ∃ w1, w.alloc (.cells #[.int .i64 (n : Int), .int .i64 98, .int .i64 gi, .int .i64 gd, .int .i64 gc] 36) = w1 := ⟨_, rfl⟩
  have H1 : Hid (Below w.heap.size w w1 ∧ w1.heap[w.heap.size]? = some (.cells #[.int .i64 (n : Int), .int .i64 98, .int .i64 gi, .int .i64 gd, .int .i64 gc] 36 (0, 0))) := by
    rw [← hw1]; exact ⟨(Below.refl _ _).alloc (Nat.le_refl _) _, heap_alloc_new _ _⟩
  have hs1 : w1.heap.size = w.heap.size + 1 := by rw [← hw1]; simp
  have hcc : ∀ j, w1.cell? ⟨w.heap.size, j, none⟩ = #[.int .i64 (n : Int), .int .i64 98, .int .i64 gi, .int .i64 gd, .int .i64 gc][j]? := fun j => cell_of_row _ _ _ _ _ _ H1.out.2
  have hcA : w1.cell? ⟨w.heap.size, 1, none⟩ = some (.int .i64 98) := hcc 1
  have hcB : w1.cell? ⟨w.heap.size, 2, none⟩ = some (.int .i64 gi) := hcc 2
  clear hcc
  have box0 : BoxI w1 S z w1 := ⟨(H1.out.1.cell (p := ⟨S, 0, none⟩) hSl).trans HP.out.2.2.s, (frozen_blk (H1.out.1.block S hSl)).trans HP.out.2.2.sf, Fr.refl _ _⟩
  go_enter Tryz.func111, Tryz.ntmps111
  go_wp2
  go_loopw [15] (fun s15 wr => ∃ k : Nat, k ≤ K ∧ s15 = .int .i64 (k : Int) ∧ BoxI w1 S (z + (ct (fd lo n (bmp D T)) (4096 * k) : Nat)) wr) (fun s15 _ => M - (intOf s15).toNat)
  case atStart => exact ⟨0, Nat.zero_le _, rfl, (by have h9 := box0; rw [← Int.add_zero z] at h9; exact h9)⟩
  case round =>
    obtain ⟨k, hk, rfl, hI⟩ := hrel
    have HI : Hid (BoxI w1 S (z + (ct (fd lo n (bmp D T)) (4096 * k) : Nat)) wr) := hI
    have HX : Hid (Below wq.heap.size wq wr) := by
      have h1 := HP.out.2.1.size
      have h2 := H1.out.1.size
      exact (HP.out.2.1.trans (H1.out.1.mono h1)).trans (hI.fr.below _ (fun k hk => by rcases hk with e | e <;> omega) (by omega))
    have hcb : wr.cell? ⟨w.heap.size, 1, none⟩ = some (.int .i64 98) := hI.fr.cell hcA (fun e => by dsimp only at e; omega)
    clear hI
    by_cases hlt : k < M
    · have hlt' : (k : Int) < (M : Int) := by omega
      by_cases hkK : k < K
      rotate_left
      · have e : k = K := by omega
        subst e
        have e98 : (98 : Int) + (k : Int) = ((98 + k : Nat) : Int) := by omega
        obtain ⟨K9, hK9⟩ : ∃ K9 : Nat, 98 + k = K9 := ⟨_, rfl⟩
        rw [hK9] at e98
        have HR : Hid (Calls Tryz.prog 65 #[.pointer (some ⟨t0, 0, none⟩), .int .i64 (K9 : Int)] wr fun e w' => ∃ a c, e = .returned (.tuple #[.slice a 0 c, .int .i64 30]) ∧ Below wr.heap.size wr w') := by
          have := (HP.out.1.on HX.out).read_no (98 + k) (by omega) (HKp.out.no (by have h9 := HM.out; omega))
          rw [HT0.out, hK9] at this
          exact this
        clear hK9
        go_wp2_with (go_at_call 65; refine HR.out.mono ?_; rintro e w2 ⟨ga, gc2, rfl, h3⟩; have H3 : Hid (Below wr.heap.size wr w2) := h3; clear h3 HR)
        go_ret
        rw [HEK.out.1 hlt]
        exact ⟨rfl, (H3.out.cell (p := ⟨S, 0, none⟩) (block_lt_of_cell HI.out.cell)).trans HI.out.cell, (frozen_blk (H3.out.block S (block_lt_of_cell HI.out.cell))).trans HI.out.frozen, ((below_fr H1.out.1 _).trans HI.out.fr (fun k hk => by rcases hk with e | e; exact .inl (.inl e); exact .inr (by omega))).trans (below_fr H3.out (fun _ => False)) (fun _ e => e.elim)⟩
      obtain ⟨F0, hF0⟩ : ∃ F0 : Nat, 4096 * k = F0 := ⟨_, rfl⟩
      have eF : (k : Int) * 4096 = (F0 : Int) := by omega
      have e98 : (98 : Int) + (k : Int) = ((98 + k : Nat) : Int) := by omega
      obtain ⟨K9, hK9⟩ : ∃ K9 : Nat, 98 + k = K9 := ⟨_, rfl⟩
      rw [hK9] at e98
      have HR : Hid (Calls Tryz.prog 65 #[.pointer (some ⟨t0, 0, none⟩), .int .i64 (K9 : Int)] wr fun e w' => ∃ g cap, e = .returned (.tuple #[.slice (some ⟨g, 0, none⟩) 512 cap, .int .i64 0]) ∧ wr.heap.size ≤ g ∧ OwnB w' g cap (bmp D T k) ∧ Below wr.heap.size wr w') := by
        have := (HP.out.1.on HX.out).read (98 + k) (by omega) (HKp.out.rd k hkK)
        rw [HT0.out, hK9] at this
        rw [bmp, hK9]
        exact this
      have HG : Hid (∀ g cap w', OwnB w' g cap (bmp D T k) → Below wr.heap.size wr w' → Calls Tryz.prog 112 #[.int .i64 (F0 : Int), .slice (some ⟨g, 0, none⟩) 512 cap, .pointer (some ⟨G, 0, none⟩), .pointer (some ⟨Db, 0, none⟩)] w' fun e w3 => e = .returned (.bool true) ∧ BoxI w1 S (z + (ct (fd lo n (bmp D T)) (4096 * (k + 1)) : Nat)) w3) := fun g cap w' ho hb => by
        have hc := ct_le (fd lo n (bmp D T)) (4096 * k)
        refine (gatF_any w' G Db S lo n (z + (ct (fd lo n (bmp D T)) (4096 * k) : Nat)) (HP.out.2.2.mv H1.out.1 HI.out hb) F0 ⟨g, 0, none⟩ cap (bmp D T k) ho.bytes (HP.out.1.bm.len k (by have h9 := HM.out; omega)) (by omega) (by omega) (by omega) (by omega)).mono ?_
        rintro e w3 ⟨rfl, hx⟩
        refine ⟨rfl, ?_⟩
        have := HI.out.comp hb hx
        rw [ct_blk, Int.natCast_add, ← Int.add_assoc, hF0]
        rw [hF0] at this
        exact this
      clear hF0 hK9
      go_wp2_with (first
        | (go_at_call 65; refine HR.out.mono ?_; rintro e w2 ⟨g, cap, rfl, h1, h2, h3⟩; have H3 : Hid (OwnB w2 g cap (bmp D T k) ∧ Below wr.heap.size wr w2) := ⟨h2, h3⟩; clear h1 h2 h3 HR)
        | (go_at_call 112; refine (HG.out _ _ _ H3.out.1 H3.out.2).mono ?_; rintro e w3 ⟨rfl, hx⟩; have H4 : Hid (BoxI w1 S (z + (ct (fd lo n (bmp D T)) (4096 * (k + 1)) : Nat)) w3) := hx; clear hx HG))
      go_roundw
      case rel => exact ⟨k + 1, by omega, by go_num, H4.out⟩
      case measure => simp [intOf]; omega
    · have hlt' : ¬ (k : Int) < (M : Int) := by omega
      go_wp2
      go_ret
      have e : k = K := by omega
      have e2 : K = M := by omega
      subst e
      rw [HEK.out.2 e2]
      exact ⟨rfl, HI.out.cell, HI.out.frozen, (below_fr H1.out.1 _).trans HI.out.fr (fun k hk => by rcases hk with e | e; exact .inl (.inl e); exact .inr (by omega))⟩
set_option maxRecDepth 100000 in
set_option maxHeartbeats 8000000 in
theorem eachBmL (w0 wq w : World) (D : Dk) (T : Tx) (n : Nat) (h : Spc w0 wq D T n) (hq : Below wq.heap.size wq w) (G Db S : Nat) (z : Int) (hC : Cau w G Db S 106 (nD n) n z) (hS : wq.heap.size ≤ S) (hz : 0 ≤ z ∧ z ≤ 1000) (K : Nat) (hK : Kpre D T n K) :
    Calls Tryz.prog 111 #[.pointer (some ⟨T.t, 0, none⟩), geoV n, .func (.func 112) #[] #[.pointer (some ⟨G, 0, none⟩), .pointer (some ⟨Db, 0, none⟩)]] w fun e w' => (e = .returned (.int .i64 (eK n K)) ∧ ct (fd (nD n) n (bmp D T)) (4096 * K) = 0 ∧ BoxI w S z w') ∨ (e = .returned (.int .i64 0) ∧ ∃ i : Nat, IsLo (fd (nD n) n (bmp D T)) i ∧ i < 4096 * K ∧ BoxI w S (i : Int) w') := by
  have HN := nM_bd h.lo h.hi
  have hnl := h.lo
  have hnh := h.hi
  have HKp : Hid (Kpre D T n K) := hK
  have hKM : K ≤ nM n := hK.le
  have hEK : (K < nM n → eK n K = 30) ∧ (K = nM n → eK n K = 0) := ⟨fun h => by unfold eK; rw [if_neg (by omega)], fun h => by unfold eK; rw [if_pos h]⟩
  clear hK
  have HP : Hid (Spc w0 wq D T n ∧ Below wq.heap.size wq w ∧ Cau w G Db S 106 (nD n) n z) := ⟨h, hq, hC⟩
  have hSl := block_lt_of_cell hC.s
  dsimp only at hSl
  clear h hq hC
  obtain ⟨M, hM⟩ : ∃ M, nM n = M := ⟨_, rfl⟩
  obtain ⟨lo, hlo⟩ : ∃ lo, nD n = lo := ⟨_, rfl⟩
  rw [hM, hlo] at HN
  rw [hM] at hKM hEK
  have HEK : Hid ((K < M → eK n K = 30) ∧ (K = M → eK n K = 0)) := hEK
  clear hEK
  rw [hlo] at HP
  obtain ⟨t0, ht0⟩ : ∃ t0, T.t = t0 := ⟨_, rfl⟩
  have HT0 : Hid (T.t = t0) := ht0
  obtain ⟨gi, hgi⟩ : ∃ gi : Int, gI (n : Int) = gi := ⟨_, rfl⟩
  obtain ⟨gd, hgd⟩ : ∃ gd : Int, gD (n : Int) = gd := ⟨_, rfl⟩
  obtain ⟨gc, hgc⟩ : ∃ gc : Int, gC (n : Int) = gc := ⟨_, rfl⟩
  have hgi' : gi - 98 = (M : Int) := by rw [← hgi, gI_nat, hM]; omega
  unfold geoV
  rw [hgi, hgd, hgc, ht0, hlo]
  have HM : Hid (nM n = M) := hM
  clear ht0 hgi hgd hgc hM hlo
  obtain ⟨w1, hw1⟩ : ∃ w1, w.alloc (.cells #[.int .i64 (n : Int), .int .i64 98, .int .i64 gi, .int .i64 gd, .int .i64 gc] 36) = w1 := ⟨_, rfl⟩
  have H1 : Hid (Below w.heap.size w w1 ∧ w1.heap[w.heap.size]? = some (.cells #[.int .i64 (n : Int), .int .i64 98, .int .i64 gi, .int .i64 gd, .int .i64 gc] 36 (0, 0))) := by
    rw [← hw1]; exact ⟨(Below.refl _ _).alloc (Nat.le_refl _) _, heap_alloc_new _ _⟩
  have hs1 : w1.heap.size = w.heap.size + 1 := by rw [← hw1]; simp
  have hcc : ∀ j, w1.cell? ⟨w.heap.size, j, none⟩ = #[.int .i64 (n : Int), .int .i64 98, .int .i64 gi, .int .i64 gd, .int .i64 gc][j]? := fun j => cell_of_row _ _ _ _ _ _ H1.out.2
  have hcA : w1.cell? ⟨w.heap.size, 1, none⟩ = some (.int .i64 98) := hcc 1
  have hcB : w1.cell? ⟨w.heap.size, 2, none⟩ = some (.int .i64 gi) := hcc 2
  clear hcc
  have box0 : BoxI w1 S z w1 := ⟨(H1.out.1.cell (p := ⟨S, 0, none⟩) hSl).trans HP.out.2.2.s, (frozen_blk (H1.out.1.block S hSl)).trans HP.out.2.2.sf, Fr.refl _ _⟩
  go_enter Tryz.func111, Tryz.ntmps111
  go_wp2
  go_loopw [15] (fun s15 wr => ∃ k : Nat, k ≤ K ∧ s15 = .int .i64 (k : Int) ∧ ct (fd lo n (bmp D T)) (4096 * k) = 0 ∧ BoxI w1 S z wr) (fun s15 _ => M - (intOf s15).toNat)
  case atStart => exact ⟨0, Nat.zero_le _, rfl, rfl, box0⟩
  case round =>
    obtain ⟨k, hk, rfl, h0, hI⟩ := hrel
    have HI : Hid (ct (fd lo n (bmp D T)) (4096 * k) = 0 ∧ BoxI w1 S z wr) := ⟨h0, hI⟩
    have HX : Hid (Below wq.heap.size wq wr) := by
      have h1 := HP.out.2.1.size
      have h2 := H1.out.1.size
      exact (HP.out.2.1.trans (H1.out.1.mono h1)).trans (hI.fr.below _ (fun k hk => by rcases hk with e | e <;> omega) (by omega))
    have hcb : wr.cell? ⟨w.heap.size, 1, none⟩ = some (.int .i64 98) := hI.fr.cell hcA (fun e => by dsimp only at e; omega)
    clear hI h0
    by_cases hlt : k < M
    · have hlt' : (k : Int) < (M : Int) := by omega
      by_cases hkK : k < K
      rotate_left
      · have e : k = K := by omega
        subst e
        have e98 : (98 : Int) + (k : Int) = ((98 + k : Nat) : Int) := by omega
        obtain ⟨K9, hK9⟩ : ∃ K9 : Nat, 98 + k = K9 := ⟨_, rfl⟩
        rw [hK9] at e98
        have HR : Hid (Calls Tryz.prog 65 #[.pointer (some ⟨t0, 0, none⟩), .int .i64 (K9 : Int)] wr fun e w' => ∃ a c, e = .returned (.tuple #[.slice a 0 c, .int .i64 30]) ∧ Below wr.heap.size wr w') := by
          have := (HP.out.1.on HX.out).read_no (98 + k) (by omega) (HKp.out.no (by have h9 := HM.out; omega))
          rw [HT0.out, hK9] at this
          exact this
        clear hK9
        go_wp2_with (go_at_call 65; refine HR.out.mono ?_; rintro e w2 ⟨ga, gc2, rfl, h3⟩; have H3 : Hid (Below wr.heap.size wr w2) := h3; clear h3 HR)
        go_ret
        rw [HEK.out.1 hlt]
        exact .inl ⟨rfl, HI.out.1, (H3.out.cell (p := ⟨S, 0, none⟩) (block_lt_of_cell HI.out.2.cell)).trans HI.out.2.cell, (frozen_blk (H3.out.block S (block_lt_of_cell HI.out.2.cell))).trans HI.out.2.frozen, ((below_fr H1.out.1 _).trans HI.out.2.fr (fun k hk => by rcases hk with e | e; exact .inl (.inl e); exact .inr (by omega))).trans (below_fr H3.out (fun _ => False)) (fun _ e => e.elim)⟩
      obtain ⟨F0, hF0⟩ : ∃ F0 : Nat, 4096 * k = F0 := ⟨_, rfl⟩
      have eF : (k : Int) * 4096 = (F0 : Int) := by omega
      have e98 : (98 : Int) + (k : Int) = ((98 + k : Nat) : Int) := by omega
      obtain ⟨K9, hK9⟩ : ∃ K9 : Nat, 98 + k = K9 := ⟨_, rfl⟩
      rw [hK9] at e98
      have HR : Hid (Calls Tryz.prog 65 #[.pointer (some ⟨t0, 0, none⟩), .int .i64 (K9 : Int)] wr fun e w' => ∃ g cap, e = .returned (.tuple #[.slice (some ⟨g, 0, none⟩) 512 cap, .int .i64 0]) ∧ wr.heap.size ≤ g ∧ OwnB w' g cap (bmp D T k) ∧ Below wr.heap.size wr w') := by
        have := (HP.out.1.on HX.out).read (98 + k) (by omega) (HKp.out.rd k hkK)
        rw [HT0.out, hK9] at this
        rw [bmp, hK9]
        exact this
      have HG : Hid (∀ g cap w', OwnB w' g cap (bmp D T k) → Below wr.heap.size wr w' → Calls Tryz.prog 112 #[.int .i64 (F0 : Int), .slice (some ⟨g, 0, none⟩) 512 cap, .pointer (some ⟨G, 0, none⟩), .pointer (some ⟨Db, 0, none⟩)] w' fun e w3 => (e = .returned (.bool true) ∧ ct (fd lo n (bmp D T)) (4096 * (k + 1)) = 0 ∧ BoxI w1 S z w3) ∨ (e = .returned (.bool false) ∧ ∃ i : Nat, IsLo (fd lo n (bmp D T)) i ∧ i < 4096 * K ∧ BoxI w1 S (i : Int) w3)) := fun g cap w' ho hb => by
        have hc := ct_le (fd lo n (bmp D T)) (4096 * k)
        refine (gatL_any w' G Db S lo n z (HP.out.2.2.mv H1.out.1 HI.out.2 hb) F0 ⟨g, 0, none⟩ cap (bmp D T k) ho.bytes (HP.out.1.bm.len k (by have h9 := HM.out; omega)) (by omega) (by omega) (by omega) (by omega)).mono ?_
        rintro e w3 (⟨rfl, h4, hx⟩ | ⟨rfl, j, hj, hl, hx⟩)
        · exact .inl ⟨rfl, by rw [ct_blk, HI.out.1, hF0, h4], HI.out.2.comp hb hx⟩
        · rw [← hF0] at hl hx
          exact .inr ⟨rfl, _, lo_blk HI.out.1 hj hl, by omega, HI.out.2.comp hb hx⟩
      clear hF0 hK9
      go_wp2_with (first
        | (go_at_call 65; refine HR.out.mono ?_; rintro e w2 ⟨g, cap, rfl, h1, h2, h3⟩; have H3 : Hid (OwnB w2 g cap (bmp D T k) ∧ Below wr.heap.size wr w2) := ⟨h2, h3⟩; clear h1 h2 h3 HR)
        | (go_at_call 112; refine (HG.out _ _ _ H3.out.1 H3.out.2).mono ?_; rintro e w3 (⟨rfl, hx, hx2⟩ | ⟨rfl, hx⟩); have H4 : Hid (ct (fd lo n (bmp D T)) (4096 * (k + 1)) = 0 ∧ BoxI w1 S z w3) := ⟨hx, hx2⟩; clear hx hx2 HG; rotate_left; have H5 : Hid (∃ i : Nat, IsLo (fd lo n (bmp D T)) i ∧ i < 4096 * K ∧ BoxI w1 S (i : Int) w3) := hx; clear hx HG; rotate_left))
      · go_roundw
        case rel => exact ⟨k + 1, by omega, by go_num, H4.out⟩
        case measure => simp [intOf]; omega
      · go_ret
        obtain ⟨i, hi1, hi3, hi2⟩ := H5.out
        exact .inr ⟨rfl, i, hi1, hi3, hi2.cell, hi2.frozen, (below_fr H1.out.1 _).trans hi2.fr (fun k hk => by rcases hk with e | e; exact .inl (.inl e); exact .inr (by omega))⟩
    · have hlt' : ¬ (k : Int) < (M : Int) := by omega
      go_wp2
      go_ret
      have e : k = K := by omega
      have e2 : K = M := by omega
      subst e
      rw [HEK.out.2 e2]
      exact .inl ⟨rfl, HI.out.1, HI.out.2.cell, HI.out.2.frozen, (below_fr H1.out.1 _).trans HI.out.2.fr (fun k hk => by rcases hk with e | e; exact .inl (.inl e); exact .inr (by omega))⟩
end Go.Proofs.YtflienghgobmoaaGreatDoor

namespace Go.Proofs.YtflienghgobmoaaGreatDoor
open Go.RowKit Go.Maps Rec

set_option maxRecDepth 100000 in
set_option maxHeartbeats 4000000 in
theorem eachFrF (w0 wq w : World) (D : Dk) (T : Tx) (n : Nat) (h : Spc w0 wq D T n) (hq : Below wq.heap.size wq w) (S : Nat) (z : Int) (hc : w.cell? ⟨S, 0, none⟩ = some (.int .i64 z)) (hf : w.frozen? ⟨S, 0, none⟩ = false) (hS : wq.heap.size ≤ S) (hz : 0 ≤ z ∧ z ≤ 1000) (K : Nat) (hK : Kpre D T n K) :
    Calls Tryz.prog 75 #[.pointer (some ⟨T.t, 0, none⟩), geoV n, .func (.func 76) #[] #[.pointer (some ⟨S, 0, none⟩)]] w fun e w' => e = .returned (.int .i64 (eK n K)) ∧ BoxI w S (z + (ct (fd (nD n) n (bmp D T)) (4096 * K) : Nat)) w' := by
  have hSl := block_lt_of_cell hc
  dsimp only at hSl
  have HE : Hid (∀ wx, wx = (w.alloc (.cells #[.int .i64 (n : Int), .int .i64 98, .int .i64 (gI n), .int .i64 (gD n), .int .i64 (gC n)] 36)).alloc (.cells #[.func (.func 76) #[] #[.pointer (some ⟨S, 0, none⟩)]] 127) → Calls Tryz.prog 111 #[.pointer (some ⟨T.t, 0, none⟩), geoV n, .func (.func 112) #[] #[.pointer (some ⟨w.heap.size, 0, none⟩), .pointer (some ⟨w.heap.size + 1, 0, none⟩)]] wx fun e w' => e = .returned (.int .i64 (eK n K)) ∧ BoxI w S (z + (ct (fd (nD n) n (bmp D T)) (4096 * K) : Nat)) w') := fun wx hx => by
    have hb1 : Below w.heap.size w wx := by rw [hx]; exact ((Below.refl _ _).alloc (Nat.le_refl _) _).alloc (by simp) _
    have r1 : wx.heap[w.heap.size]? = some (.cells #[.int .i64 (n : Int), .int .i64 98, .int .i64 (gI n), .int .i64 (gD n), .int .i64 (gC n)] 36 (0, 0)) := by rw [hx]; exact (Below.heap_alloc _ _ _ (by simp)).trans (heap_alloc_new _ _)
    have r2 : wx.heap[w.heap.size + 1]? = some (.cells #[.func (.func 76) #[] #[.pointer (some ⟨S, 0, none⟩)]] 127 (0, 0)) := by
      have := heap_alloc_new (w.alloc (.cells #[.int .i64 (n : Int), .int .i64 98, .int .i64 (gI n), .int .i64 (gD n), .int .i64 (gC n)] 36)) (.cells #[.func (.func 76) #[] #[.pointer (some ⟨S, 0, none⟩)]] 127)
      rw [World.size_alloc] at this
      rw [hx]
      exact this
    have hC : Cau wx w.heap.size (w.heap.size + 1) S 76 (nD n) n z := ⟨by rw [cell_of_row _ _ _ _ _ _ r1]; rfl, by rw [cell_of_row _ _ _ _ _ _ r1, ← gD_nat]; rfl, by rw [cell_of_row _ _ _ _ _ _ r2]; rfl, (hb1.cell (p := ⟨S, 0, none⟩) hSl).trans hc, (frozen_blk (hb1.block S hSl)).trans hf, by omega, by omega⟩
    have hsz := hb1.size
    refine (eachBmF w0 wq wx D T n h (hq.trans (hb1.mono hq.size)) _ _ S z hC hS hz K hK).mono ?_
    rintro e w' ⟨rfl, hy⟩
    exact ⟨rfl, ⟨hy.cell, hy.frozen, (below_fr hb1 _).trans hy.fr (fun k hk => by rcases hk with e | e; exact .inl (.inl e); exact .inr (by omega))⟩⟩
  clear h hq hc hf hz hS hK
  go_enter Tryz.func75, Tryz.ntmps75
  unfold geoV
  unfold geoV at HE
  go_wp2_with (go_at_call 111; refine (HE.out _ rfl).mono ?_; rintro e w3 ⟨rfl, hx⟩; clear HE; have HX : Hid (BoxI w S (z + (ct (fd (nD n) n (bmp D T)) (4096 * K) : Nat)) w3) := hx; clear hx)
  go_ret
  exact ⟨rfl, HX.out⟩
set_option maxRecDepth 100000 in
set_option maxHeartbeats 4000000 in
theorem eachFrL (w0 wq w : World) (D : Dk) (T : Tx) (n : Nat) (h : Spc w0 wq D T n) (hq : Below wq.heap.size wq w) (S : Nat) (z : Int) (hc : w.cell? ⟨S, 0, none⟩ = some (.int .i64 z)) (hf : w.frozen? ⟨S, 0, none⟩ = false) (hS : wq.heap.size ≤ S) (hz : 0 ≤ z ∧ z ≤ 1000) (K : Nat) (hK : Kpre D T n K) :
    Calls Tryz.prog 75 #[.pointer (some ⟨T.t, 0, none⟩), geoV n, .func (.func 106) #[] #[.pointer (some ⟨S, 0, none⟩)]] w fun e w' => ∃ ev : Int, e = .returned (.int .i64 ev) ∧ ((ev = eK n K ∧ ct (fd (nD n) n (bmp D T)) (4096 * K) = 0 ∧ BoxI w S z w') ∨ (ev = 0 ∧ ∃ i : Nat, IsLo (fd (nD n) n (bmp D T)) i ∧ i < 4096 * K ∧ BoxI w S (i : Int) w')) := by
  have hSl := block_lt_of_cell hc
  dsimp only at hSl
  have HE : Hid (∀ wx, wx = (w.alloc (.cells #[.int .i64 (n : Int), .int .i64 98, .int .i64 (gI n), .int .i64 (gD n), .int .i64 (gC n)] 36)).alloc (.cells #[.func (.func 106) #[] #[.pointer (some ⟨S, 0, none⟩)]] 127) → Calls Tryz.prog 111 #[.pointer (some ⟨T.t, 0, none⟩), geoV n, .func (.func 112) #[] #[.pointer (some ⟨w.heap.size, 0, none⟩), .pointer (some ⟨w.heap.size + 1, 0, none⟩)]] wx fun e w' => ∃ ev : Int, e = .returned (.int .i64 ev) ∧ ((ev = eK n K ∧ ct (fd (nD n) n (bmp D T)) (4096 * K) = 0 ∧ BoxI w S z w') ∨ (ev = 0 ∧ ∃ i : Nat, IsLo (fd (nD n) n (bmp D T)) i ∧ i < 4096 * K ∧ BoxI w S (i : Int) w'))) := fun wx hx => by
    have hb1 : Below w.heap.size w wx := by rw [hx]; exact ((Below.refl _ _).alloc (Nat.le_refl _) _).alloc (by simp) _
    have r1 : wx.heap[w.heap.size]? = some (.cells #[.int .i64 (n : Int), .int .i64 98, .int .i64 (gI n), .int .i64 (gD n), .int .i64 (gC n)] 36 (0, 0)) := by rw [hx]; exact (Below.heap_alloc _ _ _ (by simp)).trans (heap_alloc_new _ _)
    have r2 : wx.heap[w.heap.size + 1]? = some (.cells #[.func (.func 106) #[] #[.pointer (some ⟨S, 0, none⟩)]] 127 (0, 0)) := by
      have := heap_alloc_new (w.alloc (.cells #[.int .i64 (n : Int), .int .i64 98, .int .i64 (gI n), .int .i64 (gD n), .int .i64 (gC n)] 36)) (.cells #[.func (.func 106) #[] #[.pointer (some ⟨S, 0, none⟩)]] 127)
      rw [World.size_alloc] at this
      rw [hx]
      exact this
    have hC : Cau wx w.heap.size (w.heap.size + 1) S 106 (nD n) n z := ⟨by rw [cell_of_row _ _ _ _ _ _ r1]; rfl, by rw [cell_of_row _ _ _ _ _ _ r1, ← gD_nat]; rfl, by rw [cell_of_row _ _ _ _ _ _ r2]; rfl, (hb1.cell (p := ⟨S, 0, none⟩) hSl).trans hc, (frozen_blk (hb1.block S hSl)).trans hf, by omega, by omega⟩
    have hsz := hb1.size
    refine (eachBmL w0 wq wx D T n h (hq.trans (hb1.mono hq.size)) _ _ S z hC hS hz K hK).mono ?_
    rintro e w' (⟨rfl, h4, hy⟩ | ⟨rfl, i, hi, hi2, hy⟩)
    · exact ⟨_, rfl, .inl ⟨rfl, h4, ⟨hy.cell, hy.frozen, (below_fr hb1 _).trans hy.fr (fun k hk => by rcases hk with e | e; exact .inl (.inl e); exact .inr (by omega))⟩⟩⟩
    · exact ⟨_, rfl, .inr ⟨rfl, i, hi, hi2, ⟨hy.cell, hy.frozen, (below_fr hb1 _).trans hy.fr (fun k hk => by rcases hk with e | e; exact .inl (.inl e); exact .inr (by omega))⟩⟩⟩
  clear h hq hc hf hz hS hK
  go_enter Tryz.func75, Tryz.ntmps75
  unfold geoV
  unfold geoV at HE
  go_wp2_with (go_at_call 111; refine (HE.out _ rfl).mono ?_; rintro e w3 ⟨ev, rfl, hx⟩; clear HE; have HX : Hid ((ev = eK n K ∧ ct (fd (nD n) n (bmp D T)) (4096 * K) = 0 ∧ BoxI w S z w3) ∨ (ev = 0 ∧ ∃ i : Nat, IsLo (fd (nD n) n (bmp D T)) i ∧ i < 4096 * K ∧ BoxI w S (i : Int) w3)) := hx; clear hx)
  go_ret
  exact ⟨ev, rfl, HX.out⟩
set_option maxRecDepth 100000 in
set_option maxHeartbeats 4000000 in
theorem low_no (w0 w : World) (D : Dk) (T : Tx) (n : Nat) (h : Spc w0 w D T n) (K : Nat) (hK : Kpre D T n K) (hct : ct (fd (nD n) n (bmp D T)) (4096 * K) = 0) :
    Calls Tryz.prog 67 #[.pointer (some ⟨T.t, 0, none⟩), geoV n] w fun e w' => e = .returned (.tuple #[.int .i64 0, .int .i64 (if K = nM n then 90 else 30)]) ∧ Below w.heap.size w w' := by
  have hN := nM_bd h.lo h.hi
  have HE : Hid (∀ wx, wx = (w.alloc (.cells #[.int .i64 (n : Int), .int .i64 98, .int .i64 (gI n), .int .i64 (gD n), .int .i64 (gC n)] 36)).alloc (.cells #[.int .i64 0] 3) → Calls Tryz.prog 75 #[.pointer (some ⟨T.t, 0, none⟩), geoV n, .func (.func 106) #[] #[.pointer (some ⟨w.heap.size + 1, 0, none⟩)]] wx fun e w' => e = .returned (.int .i64 (eK n K)) ∧ Below w.heap.size w w' ∧ w'.cell? ⟨w.heap.size + 1, 0, none⟩ = some (.int .i64 0)) := fun wx hx => by
    have hb1 : Below w.heap.size w wx := by rw [hx]; exact ((Below.refl _ _).alloc (Nat.le_refl _) _).alloc (by simp) _
    have r2 : wx.heap[w.heap.size + 1]? = some (.cells #[.int .i64 0] 3 (0, 0)) := by
      have := heap_alloc_new (w.alloc (.cells #[.int .i64 (n : Int), .int .i64 98, .int .i64 (gI n), .int .i64 (gD n), .int .i64 (gC n)] 36)) (.cells #[.int .i64 0] 3)
      rw [World.size_alloc] at this
      rw [hx]
      exact this
    have hsz := hb1.size
    refine (eachFrL w0 w wx D T n h hb1 (w.heap.size + 1) 0 (by rw [cell_of_row _ _ _ _ _ _ r2]; rfl) (frozen_of_row _ _ _ _ _ r2) (by omega) (by omega) K hK).mono ?_
    rintro e w' ⟨ev, rfl, ⟨rfl, _, hy⟩ | ⟨_, i, hi, hi2, _⟩⟩
    · exact ⟨rfl, hb1.trans (hy.fr.below _ (fun k hk => by rcases hk with e | e <;> omega) (by omega)), hy.cell⟩
    · have h2 := ct_zero.1 hct i hi2
      rw [hi.1] at h2
      cases h2
  clear hct hK
  clear h
  by_cases hKM : K = nM n
  rotate_left
  · have e1 : eK n K = 30 := by unfold eK; rw [if_neg hKM]
    rw [e1] at HE
    rw [if_neg hKM]
    clear e1 hKM hN
    go_enter Tryz.func67, Tryz.ntmps67
    unfold geoV
    unfold geoV at HE
    go_wp2_with (go_at_call 75; refine (HE.out _ rfl).mono ?_; rintro e w3 ⟨rfl, hx, hcl⟩; clear HE; have HX : Hid (Below w.heap.size w w3) := hx; clear hx)
    go_ret2
    exact ⟨rfl, HX.out⟩
  have e1 : eK n K = 0 := by unfold eK; rw [if_pos hKM]
  rw [e1] at HE
  rw [if_pos hKM]
  clear e1 hKM hN
  go_enter Tryz.func67, Tryz.ntmps67
  unfold geoV
  unfold geoV at HE
  go_wp2_with (go_at_call 75; refine (HE.out _ rfl).mono ?_; rintro e w3 ⟨rfl, hx, hcl⟩; clear HE; have HX : Hid (Below w.heap.size w w3) := hx; clear hx)
  go_ret2
  exact ⟨rfl, HX.out⟩
set_option maxRecDepth 100000 in
set_option maxHeartbeats 4000000 in
theorem low_yes (w0 w : World) (D : Dk) (T : Tx) (n : Nat) (h : Spc w0 w D T n) (i : Nat) (hi : IsLo (fd (nD n) n (bmp D T)) i) (K : Nat) (hK : Kpre D T n K) (hiK : i < 4096 * K) :
    Calls Tryz.prog 67 #[.pointer (some ⟨T.t, 0, none⟩), geoV n] w fun e w' => e = .returned (.tuple #[.int .i64 (i : Int), .int .i64 0]) ∧ Below w.heap.size w w' := by
  have hN := nM_bd h.lo h.hi
  have HE : Hid (∀ wx, wx = (w.alloc (.cells #[.int .i64 (n : Int), .int .i64 98, .int .i64 (gI n), .int .i64 (gD n), .int .i64 (gC n)] 36)).alloc (.cells #[.int .i64 0] 3) → Calls Tryz.prog 75 #[.pointer (some ⟨T.t, 0, none⟩), geoV n, .func (.func 106) #[] #[.pointer (some ⟨w.heap.size + 1, 0, none⟩)]] wx fun e w' => e = .returned (.int .i64 0) ∧ Below w.heap.size w w' ∧ w'.cell? ⟨w.heap.size + 1, 0, none⟩ = some (.int .i64 (i : Int))) := fun wx hx => by
    have hb1 : Below w.heap.size w wx := by rw [hx]; exact ((Below.refl _ _).alloc (Nat.le_refl _) _).alloc (by simp) _
    have r2 : wx.heap[w.heap.size + 1]? = some (.cells #[.int .i64 0] 3 (0, 0)) := by
      have := heap_alloc_new (w.alloc (.cells #[.int .i64 (n : Int), .int .i64 98, .int .i64 (gI n), .int .i64 (gD n), .int .i64 (gC n)] 36)) (.cells #[.int .i64 0] 3)
      rw [World.size_alloc] at this
      rw [hx]
      exact this
    have hsz := hb1.size
    refine (eachFrL w0 w wx D T n h hb1 (w.heap.size + 1) 0 (by rw [cell_of_row _ _ _ _ _ _ r2]; rfl) (frozen_of_row _ _ _ _ _ r2) (by omega) (by omega) K hK).mono ?_
    have h1 := fd_bd hi.1
    rintro e w' ⟨ev, rfl, ⟨_, h2, _⟩ | ⟨rfl, j, hj, hj2, hy⟩⟩
    · have h3 := ct_zero.1 h2 i hiK
      rw [hi.1] at h3
      cases h3
    · obtain rfl := hi.eq hj
      exact ⟨rfl, hb1.trans (hy.fr.below _ (fun k hk => by rcases hk with e | e <;> omega) (by omega)), hy.cell⟩
  have hi0 : ((i : Int) == 0) = false := (by have := fd_bd hi.1; simp; omega)
  clear hi hK hiK
  clear h
  go_enter Tryz.func67, Tryz.ntmps67
  unfold geoV
  unfold geoV at HE
  go_wp2_with (go_at_call 75; refine (HE.out _ rfl).mono ?_; rintro e w3 ⟨rfl, hx, hcl⟩; clear HE; have HX : Hid (Below w.heap.size w w3) := hx; clear hx)
  go_ret2
  exact ⟨rfl, HX.out⟩
set_option maxRecDepth 100000 in
set_option maxHeartbeats 4000000 in
theorem free_any (w0 w : World) (D : Dk) (T : Tx) (n : Nat) (h : Spc w0 w D T n) (K : Nat) (hK : Kpre D T n K) :
    Calls Tryz.prog 31 #[.pointer (some ⟨T.t, 0, none⟩), geoV n] w fun e w' => e = .returned (.tuple #[.int .i64 (if K = nM n then (ct (fd (nD n) n (bmp D T)) n : Nat) else 0 : Nat), .int .i64 (eK n K)]) ∧ Below w.heap.size w w' := by
  have hN := nM_bd h.lo h.hi
  have HE : Hid (∀ wx, wx = (w.alloc (.cells #[.int .i64 (n : Int), .int .i64 98, .int .i64 (gI n), .int .i64 (gD n), .int .i64 (gC n)] 36)).alloc (.cells #[.int .i64 0] 3) → Calls Tryz.prog 75 #[.pointer (some ⟨T.t, 0, none⟩), geoV n, .func (.func 76) #[] #[.pointer (some ⟨w.heap.size + 1, 0, none⟩)]] wx fun e w' => e = .returned (.int .i64 (eK n K)) ∧ Below w.heap.size w w' ∧ w'.cell? ⟨w.heap.size + 1, 0, none⟩ = some (.int .i64 (ct (fd (nD n) n (bmp D T)) (4096 * K) : Nat))) := fun wx hx => by
    have hb1 : Below w.heap.size w wx := by rw [hx]; exact ((Below.refl _ _).alloc (Nat.le_refl _) _).alloc (by simp) _
    have r2 : wx.heap[w.heap.size + 1]? = some (.cells #[.int .i64 0] 3 (0, 0)) := by
      have := heap_alloc_new (w.alloc (.cells #[.int .i64 (n : Int), .int .i64 98, .int .i64 (gI n), .int .i64 (gD n), .int .i64 (gC n)] 36)) (.cells #[.int .i64 0] 3)
      rw [World.size_alloc] at this
      rw [hx]
      exact this
    have hsz := hb1.size
    refine (eachFrF w0 w wx D T n h hb1 (w.heap.size + 1) 0 (by rw [cell_of_row _ _ _ _ _ _ r2]; rfl) (frozen_of_row _ _ _ _ _ r2) (by omega) (by omega) K hK).mono ?_
    rintro e w' ⟨rfl, hy⟩
    have hcy := hy.cell
    rw [Int.zero_add] at hcy
    exact ⟨rfl, hb1.trans (hy.fr.below _ (fun k hk => by rcases hk with e | e <;> omega) (by omega)), hcy⟩
  by_cases hKM : K = nM n
  · have e1 : eK n K = 0 := by unfold eK; rw [if_pos hKM]
    rw [e1, if_pos hKM]
    rw [e1, hKM, ct_tail hN.2.2.1] at HE
    obtain ⟨c, hc⟩ : ∃ c, ct (fd (nD n) n (bmp D T)) n = c := ⟨_, rfl⟩
    rw [hc] at HE
    rw [hc]
    clear hc h hK hKM e1 hN
    go_enter Tryz.func31, Tryz.ntmps31
    unfold geoV
    unfold geoV at HE
    go_wp2_with (go_at_call 75; refine (HE.out _ rfl).mono ?_; rintro e w3 ⟨rfl, hx, hcl⟩; clear HE; have HX : Hid (Below w.heap.size w w3) := hx; clear hx)
    go_ret2
    exact ⟨rfl, HX.out⟩
  · have e1 : eK n K = 30 := by unfold eK; rw [if_neg hKM]
    rw [e1, if_neg hKM]
    rw [e1] at HE
    obtain ⟨c, hc⟩ : ∃ c, ct (fd (nD n) n (bmp D T)) (4096 * K) = c := ⟨_, rfl⟩
    rw [hc] at HE
    clear hc h hK hKM e1 hN
    go_enter Tryz.func31, Tryz.ntmps31
    unfold geoV
    unfold geoV at HE
    go_wp2_with (go_at_call 75; refine (HE.out _ rfl).mono ?_; rintro e w3 ⟨rfl, hx, hcl⟩; clear HE; have HX : Hid (Below w.heap.size w w3) := hx; clear hx)
    go_ret2
    exact ⟨rfl, HX.out⟩
end Go.Proofs.YtflienghgobmoaaGreatDoor

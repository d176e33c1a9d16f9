import Derived.Test.YtccocjipgbeaeabSetM
namespace Go.Proofs.Ytccocjipgbeaeab
open Go.RowKit Adk

set_option maxRecDepth 100000 in
set_option maxHeartbeats 1600000 in
theorem settle_keep (w : World) (D : Dk) (h : Disk w D) (c : Nat) (v : Value) (keep : List Bool) (hc : w.cell? ⟨c, 0, none⟩ = some v) (hcn : ¬ D.has c) (hkv : Bools w v keep) (hkn : keep ≠ [] → ∀ k, v.ownBlock = some k → ¬ D.has k) (hkl : keep.length ≤ 9223372036854775807) :
    Calls Try.prog 33 #[.pointer (some ⟨D.d, 0, none⟩), .func (.func 34) #[] #[.pointer (some ⟨c, 0, none⟩)]] w fun e w' => e = .returned (.tuple #[]) ∧ Disk w' (D.settled (kpOf keep)) ∧ Fr D.has w w' := by
  obtain ⟨pa, pc, hv, hpc, hga, hcc⟩ := owns_slice h.pen
  have C1 : w.cell? ⟨D.d, 1, none⟩ = some (.slice pa D.pen.length pc) := by rw [← hv]; exact h.cell 1
  have hpl := h.pl
  have HD : Hid (Disk w D) := h
  have HK : Hid (∀ wx, Fr D.has w wx → wx.cell? ⟨c, 0, none⟩ = some v ∧ Bools wx v keep) := fun wx x => ⟨x.cell hc hcn, hkv.fr x hkn⟩
  clear h hcc hc hkv hkn
  go_enter Try.func33, Try.ntmps33
  go_wp2
  go_loopw [4, 5, 11, 12, 13, 14, 15, 16, 17, 18, 19, 20, 21, 22, 23, 24, 25, 26, 27, 28, 29, 30, 31, 32, 33, 34, 35, 36, 37, 38] (fun _ _ i _ _ _ _ _ _ _ _ _ _ _ _ _ _ _ _ _ _ _ _ _ _ _ _ _ _ _ wr => ∃ k : Nat, k ≤ D.pen.length ∧ i = .int .i64 k ∧ Mid w wr D (kpOf keep) k k) (fun _ _ i _ _ _ _ _ _ _ _ _ _ _ _ _ _ _ _ _ _ _ _ _ _ _ _ _ _ _ _ => D.pen.length - (intOf i).toNat)
  case atStart => exact ⟨0, Nat.zero_le _, rfl, Mid.start HD.out _⟩
  case round =>
    obtain ⟨k, hk, rfl, hm⟩ := hrel
    have HM : Hid (Mid w wr D (kpOf keep) k k) := hm
    have D1 : wr.cell? ⟨D.d, 1, none⟩ = some (.slice pa D.pen.length pc) := by rw [← hv]; exact cell_of_row _ _ _ _ _ _ (hm.row HD.out)
    clear hm C1
    by_cases hlt : k < D.pen.length
    · obtain ⟨p, _, hp, hfk, hxk, c1, c2⟩ := penX D k hlt
      obtain ⟨pa', pc', hv', _, _, hcc⟩ := owns_slice (HM.out.pen HD.out)
      rw [hv] at hv'
      cases hv'
      obtain ⟨g, rfl⟩ := hga.resolve_left (by omega)
      have d1 := (hcc g 0 rfl).2.1 _ _ c1
      have d2 := (hcc g 0 rfl).2.1 _ _ c2
      clear hcc c1 c2
      have HP : Hid (p ∈ D.pen ∧ D.f k = p.b ∧ D.X k = p.x) := ⟨hp, hfk, hxk⟩
      have hpb := (HD.out.penb p hp).1
      clear hp hfk hxk hga
      have HA : Hid (Below wr.heap.size wr (wr.alloc (.cells #[.int .i64 p.b, .slice (some ⟨p.g, 0, none⟩) 512 p.cap] 106))) := (Below.refl _ _).alloc (Nat.le_refl _) _
      have hrow := heap_alloc_new wr (.cells #[.int .i64 p.b, .slice (some ⟨p.g, 0, none⟩) 512 p.cap] 106)
      have HS : Hid (∀ j, (wr.alloc (.cells #[.int .i64 p.b, .slice (some ⟨p.g, 0, none⟩) 512 p.cap] 106)).cell? ⟨wr.heap.size, j, none⟩ = (#[Value.int .i64 p.b, .slice (some ⟨p.g, 0, none⟩) 512 p.cap])[j]?) := fun j => cell_of_row _ _ _ _ _ _ hrow
      clear hrow
      by_cases hkp : kpOf keep k = true
      · have HK1 : Hid (kpOf keep k = true) := hkp
        clear hkp
        go_wp2_with (go_at_call 34; refine (keep_any _ c v keep k (HK.out _ (HM.out.on HA.out).has).1 (HK.out _ (HM.out.on HA.out).has).2 hkl).mono ?_; rintro e w' ⟨rfl, rfl⟩; rw [HK1.out])
        generalize hwa : wr.alloc (.cells #[.int .i64 p.b, .slice (some ⟨p.g, 0, none⟩) 512 p.cap] 106) = wa at *
        have HMa : Hid (Mid w wa D (kpOf keep) k k) := HM.out.on HA.out
        have S0 : wa.cell? ⟨wr.heap.size, 0, none⟩ = some (.int .i64 p.b) := HS.out 0
        have S1 : wa.cell? ⟨wr.heap.size, 1, none⟩ = some (.slice (some ⟨p.g, 0, none⟩) 512 p.cap) := HS.out 1
        have HB : Hid (Below wa.heap.size wa wa.drew) := (Below.refl _ wa).drew
        have HQ : Hid (D.nb ≤ 16384 ∧ 512 * D.nb ≤ D.capL ∧ p.x.length = 512 ∧ 512 * p.b + 512 ≤ (lay (kpOf keep) D.f D.X D.las k).length) := ⟨HD.out.nb1, by have := HD.out.las.room; rw [HD.out.lasl] at this; exact this, (HD.out.penb p HP.out.1).2.1, by rw [lay_length, HD.out.lasl]; omega⟩
        have HL : Hid (¬ wr.heap.size = D.L) := by have := HD.out.las.lt; have := HM.out.fr.size; show ¬ _; omega
        have HR : Hid (wa.drew.cell? ⟨D.d, 0, none⟩ = some (.slice (some ⟨D.L, 0, none⟩) (512 * D.nb) D.capL)) := cell_of_row _ _ _ _ _ _ ((HMa.out.on HB.out).row HD.out)
        clear HS hwa D1 d1 d2 HM HA
        go_region_law (first
          | (refine step_copyB rfl (.tmp 27) (.tmp 29) rfl D.L D.capL (512 * p.b) 512 (D.capL - 512 * p.b) (lay (kpOf keep) D.f D.X D.las k) ⟨p.g, 0, none⟩ 512 p.cap p.x (by simp [Act.eval]) (by simp [Act.eval]) (HMa.out.las.on HB.out) ((HMa.out.item HD.out HP.out.1).bytes.on HB.out) HQ.out.2.2.1 (Nat.le_refl _) HQ.out.2.2.2 ?_; intro w3 ho hf; have HO : Hid (OwnB w3 D.L D.capL (ov (lay (kpOf keep) D.f D.X D.las k) (512 * p.b) 512 (nth p.x))) := ho; have HM3 : Hid (Mid w w3 D (kpOf keep) (k + 1) k) := HMa.out.laid HK1.out HP.out.2.1 HP.out.2.2 HB.out ho hf HD.out; have T0 : w3.cell? ⟨wr.heap.size, 0, none⟩ = some (.int .i64 p.b) := hf.cell (by rw [HB.out.cell (p := ⟨wr.heap.size, 0, none⟩) (block_lt_of_cell S0)]; exact S0) HL.out; have T1 := (HM3.out.facts HD.out p.b hpb).1; obtain ⟨u, T2⟩ := (HM3.out.facts HD.out p.b hpb).2.1; have T3 := (HM3.out.facts HD.out p.b hpb).2.2; clear ho hf)
          | (go_simp; go_at_call 59; refine (dblock_min _ D.d D.L D.nb D.capL HR.out HQ.out.1 HQ.out.2.1 p.b hpb).mono ?_; rintro e w' ⟨rfl, rfl⟩))
        all_goals
          clear S0 S1
          go_wp2
          go_region
          all_goals
            go_wp2
            refine ⟨⟨_, hlt, rfl, ?_⟩, by simp [intOf]; omega⟩
            first
              | exact (HM3.out.on ((Below.refl _ w3).drew)).zeroed HP.out.2.1 HD.out
              | exact (HM3.out.zeroed HP.out.2.1 HD.out).on ((Below.refl _ _).drew)
      · have HK1 : Hid (kpOf keep k = false) := Bool.eq_false_iff.2 hkp
        clear hkp
        go_wp2_with (go_at_call 34; refine (keep_any _ c v keep k (HK.out _ (HM.out.on HA.out).has).1 (HK.out _ (HM.out.on HA.out).has).2 hkl).mono ?_; rintro e w' ⟨rfl, rfl⟩; rw [HK1.out])
        generalize hwa : wr.alloc (.cells #[.int .i64 p.b, .slice (some ⟨p.g, 0, none⟩) 512 p.cap] 106) = wa at *
        have HM3 : Hid (Mid w wa D (kpOf keep) (k + 1) k) := (HM.out.on HA.out).left HK1.out
        have T0 : wa.cell? ⟨wr.heap.size, 0, none⟩ = some (.int .i64 p.b) := HS.out 0
        have T1 := (HM3.out.facts HD.out p.b hpb).1
        obtain ⟨u, T2⟩ := (HM3.out.facts HD.out p.b hpb).2.1
        have T3 := (HM3.out.facts HD.out p.b hpb).2.2
        clear HS hwa D1 d1 d2 HM HA
        go_region
        all_goals
          go_wp2
          refine ⟨⟨_, hlt, rfl, ?_⟩, by simp [intOf]; omega⟩
          first
            | exact (HM3.out.on ((Below.refl _ wa).drew)).zeroed HP.out.2.1 HD.out
            | exact (HM3.out.zeroed HP.out.2.1 HD.out).on ((Below.refl _ _).drew)
    · have F1 := frozen_of_row wr D.d 1 _ _ (HM.out.row HD.out)
      obtain rfl : k = D.pen.length := by omega
      go_wp2
      go_end0
      exact ⟨rfl, settled_disk HD.out HM.out _ (by rw [hv]; rfl)⟩
end Go.Proofs.Ytccocjipgbeaeab

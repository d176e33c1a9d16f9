import Derived.Test.YtflienghgobmoaaGreatDoorYqE
import Derived.Test.YtflienghgobmoaaGreatDoorKXsE
namespace Go.Proofs.YtflienghgobmoaaGreatDoor
open Go.RowKit Rec
variable {w w' w1 : World} {a : AD} {R : RDk} {j n : Nat} {U U' U1 : RTx}
def rowT1 (U : RTx) (B : Nat → List Int) (i : Nat) : List Dn := U.row ++ [⟨((98 + i / 4096 : Nat) : Int), bput (B (98 + i / 4096)) (i % 4096) true⟩]
def withRow (U : RTx) (l : List Dn) : RTx := { U with row := l }
/-- what Take tells and leaves -/
def TkO (U : RTx) (n : Nat) (E : Nat → Int) (B : Nat → List Int) (rv : Nat) (er : Int) (row' : List Dn) : Prop :=
  (∃ i, IsLo (fd (nD n) n (fun k => B (98 + k))) i ∧ (∀ k, 4096 * k ≤ i → E (98 + k) = 0) ∧ ((rwE U n ((98 + i / 4096 : Nat) : Int) 512 ≠ 0 ∧ rv = 0 ∧ er = rwE U n ((98 + i / 4096 : Nat) : Int) 512 ∧ row' = U.row) ∨ (rwE U n ((98 + i / 4096 : Nat) : Int) 512 = 0 ∧ rwE (withRow U (rowT1 U B i)) n (i : Int) 512 ≠ 0 ∧ rv = 0 ∧ er = rwE (withRow U (rowT1 U B i)) n (i : Int) 512 ∧ row' = U.row) ∨ (rwE U n ((98 + i / 4096 : Nat) : Int) 512 = 0 ∧ rwE (withRow U (rowT1 U B i)) n (i : Int) 512 = 0 ∧ rv = i ∧ er = 0 ∧ row' = rowT1 U B i ++ [⟨(i : Int), zn 512⟩]))) ∨
  ((∀ j, j < n → fd (nD n) n (fun k => B (98 + k)) j = false) ∧ (∀ k, k < nM n → E (98 + k) = 0) ∧ rv = 0 ∧ er = 90 ∧ row' = U.row) ∨
  (∃ k, k < nM n ∧ E (98 + k) ≠ 0 ∧ (∀ k', k' < k → E (98 + k') = 0) ∧ (∀ j, j < 4096 * k → fd (nD n) n (fun k => B (98 + k)) j = false) ∧ rv = 0 ∧ er = E (98 + k) ∧ row' = U.row)
def TkP (w : World) (U : RTx) (n : Nat) (E : Nat → Int) (B : Nat → List Int) (e : Ending) (w' : World) : Prop := ∃ (rv : Nat) (er : Int) (row' : List Dn), e = .returned (.tuple #[.int .i64 (rv : Int), .int .i64 er]) ∧ (∃ U', RTxAt w' U' ∧ UMv w U w' U' ∧ U'.ends = U.ends ∧ U'.row = row') ∧ TkO U n E B rv er row'
theorem x255 (l : List Int) (i : Nat) (h : nth l (i % 4096 / 8) = 255) : bt l (i % 4096) = true := by
  unfold bt bn
  rw [h]
  have H : ∀ k, k < 8 → ((255 : Int) / 2 ^ k % 2 == 1) = true := by decide
  exact H _ (by omega)
theorem fd_bt (lo n : Nat) (B : Nat → List Int) (i : Nat) (h0 : lo ≤ i) (h1 : i < n) : fd lo n (fun k => B (98 + k)) i = !bt (B (98 + i / 4096)) (i % 4096) := by
  unfold fd isT
  rw [decide_eq_true ⟨h0, h1⟩, Bool.true_and]
theorem fd_lo (lo n : Nat) (B : Nat → List Int) (i : Nat) (h : i < lo) : fd lo n B i = false := by
  unfold fd
  rw [decide_eq_false (by omega), Bool.false_and]
theorem rwE_cong {l : List Dn} (he : U1.ends = U.ends) (hr : U1.row = l) (i : Int) (m : Nat) : rwE U1 n i m = rwE (withRow U l) n i m := by
  unfold rwE withRow
  rw [he, hr]
theorem ends_of (hE : rxE a U 98 = 0) : U.ends = false := by
  unfold rxE at hE
  cases h : U.ends with
  | true => rw [if_pos h] at hE; exact absurd hE (by decide)
  | false => rfl
theorem back_to (w : World) (U0 U' : RTx) (hU : RTxAt w U') (he : U'.ends = false) (L : List Dn) (hr : U'.row = U0.row ++ L) : Calls Tryz.prog 63 #[.pointer (some ⟨U'.u, 0, none⟩), .int .i64 (U0.row.length : Nat)] w fun e w' => e = .returned (.int .i64 0) ∧ ∃ U2, RTxAt w' U2 ∧ UMv w U' w' U2 ∧ U2.ends = U'.ends ∧ U2.row = U0.row := by
  have e0 : rbE U' (U0.row.length : Nat) = 0 := by
    unfold rbE
    rw [he, if_neg (by decide), if_neg (by rw [hr, List.length_append]; omega)]
  refine (rxback_any w U' hU (U0.row.length : Nat)).mono ?_
  rintro e w' ⟨rfl, U2, h1, h2, h3, h4⟩
  rw [e0] at h4 ⊢
  rw [if_pos rfl, Int.toNat_natCast, hr, List.take_left'] at h4
  · exact ⟨rfl, U2, h1, h2, h3, h4⟩
  · rfl
set_option maxRecDepth 100000 in
set_option maxHeartbeats 16000000 in
theorem rtake_any (h : RS w a R j U n) (hl : U.row.length + 2 ≤ 4000000) :
    Calls Tryz.prog 25 #[.pointer (some ⟨U.u, 0, none⟩), geoV n] w (TkP w U n (fun i => rxE a U (i : Int)) (fun i => rxB a U (i : Int))) := by
  have HN := nM_bd h.lo h.hi
  have hnl := h.lo
  have hnh := h.hi
  have HS : Hid (RS w a R j U n) := h
  have HR : Hid (RR w U.u n (fun i => rxE a U (i : Int)) (fun i => rxB a U (i : Int))) := h.rr
  obtain ⟨E, hE⟩ : ∃ E : Nat → Int, (fun i : Nat => rxE a U (i : Int)) = E := ⟨_, rfl⟩
  obtain ⟨B, hB⟩ : ∃ B : Nat → List Int, (fun i : Nat => rxB a U (i : Int)) = B := ⟨_, rfl⟩
  have HEB : Hid ((∀ i : Nat, rxE a U (i : Int) = E i) ∧ ∀ i : Nat, rxB a U (i : Int) = B i) := ⟨fun i => by rw [← hE], fun i => by rw [← hB]⟩
  rw [hE, hB] at HR
  rw [hE, hB]
  have HBit : Hid (∀ wx, Below w.heap.size w wx → ∀ i, i < n → Calls Tryz.prog 69 #[.pointer (some ⟨U.u, 0, none⟩), geoV n, .int .i64 (i : Int)] wx fun e w' => e = .returned (.tuple #[.bool (if E (98 + i / 4096) = 0 then bt (B (98 + i / 4096)) (i % 4096) else false), .int .i64 (E (98 + i / 4096))]) ∧ Below wx.heap.size wx w') := fun wx hb i hi => rbit_any wx U.u n E B (HR.out.on hb) i hi
  have HSet : Hid (∀ wx, Below w.heap.size w wx → ∀ i, i < n → E (98 + i / 4096) = 0 → bt (B (98 + i / 4096)) (i % 4096) = false → Calls Tryz.prog 70 #[.pointer (some ⟨U.u, 0, none⟩), geoV n, .int .i64 (i : Int)] wx (RwP wx U (rwE U n ((98 + i / 4096 : Nat) : Int) 512) (rowT1 U B i))) := fun wx hb i hi he hbt => by
    have := rset_any (HS.out.on hb) (by omega) i hi (by rw [HEB.out.1]; exact he)
    rw [HEB.out.2, hbt] at this
    exact this
  have HFd : Hid (∀ i, nD n ≤ i → i < n → fd (nD n) n (fun k => B (98 + k)) i = !bt (B (98 + i / 4096)) (i % 4096)) := fun i h0 h1 => fd_bt _ _ B i h0 h1
  have HFl : Hid (∀ i, i < nD n → fd (nD n) n (fun k => B (98 + k)) i = false) := fun i hi => fd_lo _ _ _ i hi
  obtain ⟨f, hf⟩ : ∃ f, fd (nD n) n (fun k => B (98 + k)) = f := ⟨_, rfl⟩
  have HFe : Hid (fd (nD n) n (fun k => B (98 + k)) = f) := hf
  rw [hf] at HFd HFl
  clear h hE hB hf
  obtain ⟨wz, hwz⟩ : ∃ wz, w.alloc (.cells #[.int .i64 (n : Int), .int .i64 98, .int .i64 (gI n), .int .i64 (gD n), .int .i64 (gC n)] 36) = wz := ⟨_, rfl⟩
  have HZ : Hid (Below w.heap.size w wz ∧ GeoAt wz w.heap.size n) := by rw [← hwz]; exact ⟨(Below.refl _ _).alloc (Nat.le_refl _) _, heap_alloc_new _ _⟩
  obtain ⟨lo, hlo⟩ : ∃ lo, nD n = lo := ⟨_, rfl⟩
  have HGc : Hid (∀ wx, Below wz.heap.size wz wx → wx.cell? ⟨w.heap.size, 0, none⟩ = some (.int .i64 (n : Int)) ∧ wx.cell? ⟨w.heap.size, 1, none⟩ = some (.int .i64 98) ∧ wx.cell? ⟨w.heap.size, 2, none⟩ = some (.int .i64 (gI n)) ∧ wx.cell? ⟨w.heap.size, 3, none⟩ = some (.int .i64 (lo : Int)) ∧ wx.cell? ⟨w.heap.size, 4, none⟩ = some (.int .i64 (gC n))) := fun wx hb => by
    have := (HZ.out.2.on hb).cells
    rw [gD_nat, hlo] at this
    exact this
  have HgD : Hid (gD (n : Int) = (lo : Int)) := by show gD (n : Int) = _; rw [gD_nat, hlo]
  rw [hlo] at HFd HFl HN
  have HLo : Hid (nD n = lo) := hlo
  clear hlo
  have HR98 : Hid (Calls Tryz.prog 66 #[.pointer (some ⟨U.u, 0, none⟩), .int .i64 98] wz (RxQ wz (E 98) (B 98))) := HR.out.rd wz HZ.out.1 98 (by omega)
  obtain ⟨x0, x1, x2, x3, x4⟩ := HGc.out wz (Below.refl _ _)
  go_enter Tryz.func25, Tryz.ntmps25
  unfold geoV
  go_upto_region 2 with (go_at_call 66; refine HR98.out.mono ?_; rintro e w2 ⟨pa, nn, c, rfl, h1, h2, h3⟩; have H2 : Hid ((B 98).length = nn ∧ Below wz.heap.size wz w2 ∧ (E 98 = 0 → ∃ g, pa = some ⟨g, 0, none⟩ ∧ wz.heap.size ≤ g ∧ WB w2 g (B 98))) := ⟨h1, h2, h3⟩; clear h1 h2 h3 x0 x1 x2 x3 x4)
  have HW2 : Hid (Below w.heap.size w w2) := HZ.out.1.trans (H2.out.2.1.mono HZ.out.1.size)
  have HSm : Hid (∀ wx, Below w.heap.size w wx → ∃ U', RTxAt wx U' ∧ UMv w U wx U' ∧ U'.ends = U.ends ∧ U'.row = U.row) := fun wx hb => ⟨U, HS.out.x.on hb, UMv.on hb, rfl, rfl⟩
  have HM1 : Hid (1 ≤ nM n) := by show 1 ≤ nM n; omega
  by_cases hE98 : E 98 = 0
  rotate_left
  · obtain ⟨er, her⟩ : ∃ er, E 98 = er := ⟨_, rfl⟩
    have HErr : Hid (E 98 = er ∧ er ≠ 0) := ⟨her, by rw [← her]; exact hE98⟩
    rw [her] at hE98 ⊢
    have hE' : ((er : Int) == 0) = false := by simp; exact hE98
    clear her hE98
    go_wp2
    go_ret2
    refine ⟨0, er, U.row, rfl, HSm.out _ HW2.out, .inr (.inr ⟨0, by have := HM1.out; omega, by rw [show 98 + 0 = 98 from rfl, HErr.out.1]; exact HErr.out.2, fun k' hk' => absurd hk' (Nat.not_lt_zero _), fun j hj => absurd hj (by omega), rfl, HErr.out.1.symm, rfl⟩)⟩
  · obtain ⟨h1, h2, h3⟩ := H2.out
    obtain ⟨g, rfl, hg, hW⟩ := h3 hE98
    have hl98 : (B 98).length = 512 := HR.out.len 98 (by omega) hE98
    rw [hl98] at h1
    subst h1
    rw [hE98]
    have HL0 : Hid (Bytes w2 (some ⟨g, 0, none⟩) (B (98 + (lo - 1) / 4096)) ∧ (∀ k, 4096 * k < lo → E (98 + k) = 0)) := by
      have e : (lo - 1) / 4096 = 0 := by have := HLo.out; unfold nD nM at this; omega
      have hlo9 : lo < 4096 := by have := HLo.out; unfold nD nM at this; omega
      rw [e]
      refine ⟨hW.bytes, fun k hk => ?_⟩
      have : k = 0 := by omega
      subst this
      exact hE98
    have HEnd : Hid (U.ends = false) := ends_of (a := a) (by have := HEB.out.1 98; rw [show ((98 : Nat) : Int) = 98 from rfl] at this; rw [this]; exact hE98)
    have HBz : Hid (Below wz.heap.size wz w2) := h2
    obtain ⟨x0, x1, x2, x3, x4⟩ := HGc.out w2 h2
    clear h2 h3 hg hW hl98 H2 hE98
    go_upto_region 5 with fail
    go_loopw [6, 7, 8] (fun s6 s7 s8 wr => ∃ (i : Nat) (pa : Option Addr) (c : Nat), s8 = .int .i64 (i : Int) ∧ lo ≤ i ∧ i ≤ n ∧ s6 = .slice pa 512 c ∧ s7 = .int .i64 0 ∧ Below wz.heap.size wz wr ∧ (∀ j, j < i → f j = false) ∧ (∀ k, 4096 * k < i → E (98 + k) = 0) ∧ Bytes wr pa (B (98 + (i - 1) / 4096))) (fun _ _ s8 _ => n - (intOf s8).toNat)
    case atStart => exact ⟨lo, _, _, rfl, Nat.le_refl _, by have := HLo.out; omega, rfl, rfl, HBz.out, fun j hj => HFl.out j hj, HL0.out.2, HL0.out.1⟩
    case round =>
      obtain ⟨i, pa2, c2, rfl, hi0, hi1, rfl, rfl, hb, hfj, hEk, hBy⟩ := hrel
      have HQ : Hid (Below wz.heap.size wz wr ∧ (∀ j, j < i → f j = false) ∧ (∀ k, 4096 * k < i → E (98 + k) = 0) ∧ Bytes wr pa2 (B (98 + (i - 1) / 4096))) := ⟨hb, hfj, hEk, hBy⟩
      clear hfj hEk hBy x0 x1 x2 x3 x4
      obtain ⟨x0, x1, x2, x3, x4⟩ := HGc.out wr hb
      clear hb
      by_cases hlt : i < n
      · have hlt' : (i : Int) < (n : Int) := by omega
        have HgDh := HgD.out
        have eA : (98 : Int) + (i : Int) / 4096 = ((98 + i / 4096 : Nat) : Int) := by omega
        have eQ : (i : Int) % 4096 / 8 = ((i % 4096 / 8 : Nat) : Int) := by omega
        have hq : i % 4096 / 8 < 512 := by omega
        have hA0 : 98 + i / 4096 < n := by omega
        have HRA : Hid (∀ wx, Below wz.heap.size wz wx → Calls Tryz.prog 66 #[.pointer (some ⟨U.u, 0, none⟩), .int .i64 ((98 + i / 4096 : Nat) : Int)] wx (RxQ wx (E (98 + i / 4096)) (B (98 + i / 4096)))) := fun wx hb => HR.out.rd wx (HZ.out.1.trans (hb.mono HZ.out.1.size)) _ hA0
        have HLA : Hid (E (98 + i / 4096) = 0 → (B (98 + i / 4096)).length = 512) := HR.out.len _ hA0
        have HBt := HBit.out
        obtain ⟨A, hA⟩ : ∃ A, 98 + i / 4096 = A := ⟨_, rfl⟩
        have hAe : Hid (98 + i / 4096 = A) := hA
        obtain ⟨q, hqe⟩ : ∃ q, i % 4096 / 8 = q := ⟨_, rfl⟩
        have HQe : Hid (i % 4096 / 8 = q) := hqe
        rw [hA] at eA HRA HLA
        rw [hqe] at eQ hq
        clear hA hqe hA0 HBt HgDh
        have hcase : (((i : Int) % 4096 == 0) = true ∧ i % 4096 = 0) ∨ ((((i : Int) % 4096 == 0) = false ∧ ((i : Int) == (lo : Int)) = true) ∧ i = lo) ∨ ((((i : Int) % 4096 == 0) = false ∧ ((i : Int) == (lo : Int)) = false) ∧ ¬ i % 4096 = 0 ∧ ¬ i = lo) := by
          by_cases e : i % 4096 = 0
          · exact .inl ⟨by simp; omega, e⟩
          · have e1 : ((i : Int) % 4096 == 0) = false := by simp; omega
            by_cases e2 : i = lo
            · exact .inr (.inl ⟨⟨e1, by simp; omega⟩, e2⟩)
            · exact .inr (.inr ⟨⟨e1, by simp; omega⟩, e, e2⟩)
        have HJoin : Hid (∀ wx, Below wz.heap.size wz wx → ¬ i % 4096 = 0 ∧ ¬ i = lo → Bytes wr pa2 (B (98 + (i - 1) / 4096)) → Bytes wr pa2 (B A) ∧ E A = 0) := fun wx _ hn hb => by
          have e1 : (i - 1) / 4096 = i / 4096 := by omega
          rw [e1, hAe.out] at hb
          refine ⟨hb, ?_⟩
          have := HQ.out.2.2.1 (i / 4096) (by omega)
          rw [hAe.out] at this
          exact this
        have HEndR : Hid (∀ (wx : World) (pa : Option Addr), f i = false → E A = 0 → Bytes wx pa (B A) → (∀ j, j < i + 1 → f j = false) ∧ (∀ k, 4096 * k < i + 1 → E (98 + k) = 0) ∧ Bytes wx pa (B (98 + (i + 1 - 1) / 4096))) := fun wx pa hT hE0 hby => by
          refine ⟨fun j hj => ?_, fun k hk => ?_, by rw [Nat.add_sub_cancel, hAe.out]; exact hby⟩
          · by_cases e : j = i
            · subst e; exact hT
            · exact HQ.out.2.1 j (by omega)
          · by_cases e : 4096 * k < i
            · exact HQ.out.2.2.1 k e
            · have : 98 + k = A := by have := hAe.out; omega
              rw [this]; exact hE0
        have HFi : Hid (f i = !bt (B A) (i % 4096)) := by
          have := HFd.out i hi0 hlt
          rw [hAe.out] at this; exact this
        have HBitA : Hid (E A = 0 → ∀ wx, Below wz.heap.size wz wx → Calls Tryz.prog 69 #[.pointer (some ⟨U.u, 0, none⟩), .agg #[.int .i64 n, .int .i64 98, .int .i64 (gI n), .int .i64 (lo : Int), .int .i64 (gC n)], .int .i64 (i : Int)] wx fun e w' => e = .returned (.tuple #[.bool (bt (B A) (i % 4096)), .int .i64 0]) ∧ Below wx.heap.size wx w') := fun hE0 wx hb => by
          have := HBit.out wx (HZ.out.1.trans (hb.mono HZ.out.1.size)) i hlt
          unfold geoV at this
          rw [hAe.out, hE0, if_pos rfl, HgD.out] at this
          exact this
        have HSetA : Hid (E A = 0 → bt (B A) (i % 4096) = false → ∀ wx, Below wz.heap.size wz wx → Calls Tryz.prog 70 #[.pointer (some ⟨U.u, 0, none⟩), .agg #[.int .i64 n, .int .i64 98, .int .i64 (gI n), .int .i64 (lo : Int), .int .i64 (gC n)], .int .i64 (i : Int)] wx (RwP wx U (rwE U n (A : Int) 512) (rowT1 U B i))) := fun hE0 hbt wx hb => by
          have := HSet.out wx (HZ.out.1.trans (hb.mono HZ.out.1.size)) i hlt (by rw [hAe.out]; exact hE0) (by rw [hAe.out]; exact hbt)
          unfold geoV at this
          rw [hAe.out, HgD.out] at this
          exact this
        rcases hcase with ⟨t1, hc⟩ | ⟨⟨t1, t2⟩, hc⟩ | ⟨⟨t1, t2⟩, hc⟩
        rotate_left 2
        · have HP : Hid (Below wz.heap.size wz wr ∧ Bytes wr pa2 (B A) ∧ E A = 0) := ⟨HQ.out.1, HJoin.out wr HQ.out.1 hc HQ.out.2.2.2⟩
          have HLA : Hid ((B A).length = 512) := HLA.out HP.out.2.2
          clear hc
          go_upto_region 11 with fail
          obtain ⟨bg, off, rfl, hcc⟩ := (HP.out.2.1.at_).resolve_left (by intro e; have := HLA.out; rw [e] at this; simp at this)
          have cq := hcc q (by rw [HLA.out]; exact hq)
          obtain ⟨x, hx⟩ : ∃ x, nth (B A) q = x := ⟨_, rfl⟩
          have HX : Hid (nth (B A) q = x) := hx
          rw [hx] at cq
          have hxw := HP.out.2.1.wf q
          rw [hx] at hxw
          clear hx hcc
          obtain ⟨x0, x1, x2, x3, x4⟩ := HGc.out _ HP.out.1
          by_cases h255 : x = 255
          · subst h255
            have HT : Hid (f i = false) := by
              rw [HFi.out, x255 (B A) i (by rw [HQe.out]; exact HX.out)]; rfl
            go_wp2
            obtain ⟨r1, r2, r3⟩ := HEndR.out _ _ HT.out HP.out.2.2 HP.out.2.1
            exact ⟨⟨i + 1, _, _, by go_num, by omega, by omega, rfl, rfl, HP.out.1, r1, r2, r3⟩, by simp [intOf]; omega⟩
          · have h255' : ((x : Int) == 255) = false := by simp; exact h255
            have HBi : Hid (∀ wx, Below wz.heap.size wz wx → Calls Tryz.prog 69 #[.pointer (some ⟨U.u, 0, none⟩), .agg #[.int .i64 n, .int .i64 98, .int .i64 (gI n), .int .i64 (lo : Int), .int .i64 (gC n)], .int .i64 (i : Int)] wx fun e w' => e = .returned (.tuple #[.bool (bt (B A) (i % 4096)), .int .i64 0]) ∧ Below wx.heap.size wx w') := HBitA.out HP.out.2.2
            clear h255
            cases hbb : bt (B A) (i % 4096) with
            | true =>
              rw [hbb] at HBi
              have HT : Hid (f i = false) := by rw [HFi.out, hbb]; rfl
              clear hbb
              go_wp2_with (go_at_call 69; refine (HBi.out _ HP.out.1).mono ?_; rintro e w4 ⟨rfl, hb4⟩; have H4 : Hid (Below wz.heap.size wz w4 ∧ Bytes w4 (some ⟨bg, off, none⟩) (B A)) := ⟨HP.out.1.trans (hb4.mono HP.out.1.size), HP.out.2.1.on hb4⟩; clear hb4)
              obtain ⟨r1, r2, r3⟩ := HEndR.out _ _ HT.out HP.out.2.2 H4.out.2
              exact ⟨⟨i + 1, _, _, by go_num, by omega, by omega, rfl, rfl, H4.out.1, r1, r2, r3⟩, by simp [intOf]; omega⟩
            | false =>
              rw [hbb] at HBi
              have HLoI : Hid (IsLo f i ∧ ∀ k, 4096 * k ≤ i → E (98 + k) = 0) := ⟨⟨by rw [HFi.out, hbb]; rfl, HQ.out.2.1⟩, fun k hk => by
                by_cases e : 4096 * k < i
                · exact HQ.out.2.2.1 k e
                · have : 98 + k = A := by have := hAe.out; omega
                  rw [this]; exact HP.out.2.2⟩
              have HSi : Hid (∀ wx, Below wz.heap.size wz wx → Calls Tryz.prog 70 #[.pointer (some ⟨U.u, 0, none⟩), .agg #[.int .i64 n, .int .i64 98, .int .i64 (gI n), .int .i64 (lo : Int), .int .i64 (gC n)], .int .i64 (i : Int)] wx (RwP wx U (rwE U n (A : Int) 512) (rowT1 U B i))) := HSetA.out HP.out.2.2 hbb
              have HMk : Hid (∀ wx, Below wz.heap.size wz wx → Calls Tryz.prog 61 #[.pointer (some ⟨U.u, 0, none⟩)] wx fun e w' => e = .returned (.tuple #[.int .i64 (U.row.length : Nat), .int .i64 0]) ∧ Below wx.heap.size wx w') := fun wx hb => by
                have := rxmark_any wx U (HS.out.x.on (HZ.out.1.trans (hb.mono HZ.out.1.size)))
                rw [HEnd.out, if_neg (by decide)] at this
                exact this
              obtain ⟨er1, her1⟩ : ∃ er1, rwE U n (A : Int) 512 = er1 := ⟨_, rfl⟩
              have HE1 : Hid (rwE U n (A : Int) 512 = er1) := her1
              rw [her1] at HSi
              obtain ⟨len, hlen⟩ : ∃ len, U.row.length = len := ⟨_, rfl⟩
              have HLe : Hid (U.row.length = len) := hlen
              rw [hlen] at HMk
              clear hbb her1 hlen
              go_upto_region 18 with (first
                | (go_at_call 69; refine (HBi.out _ HP.out.1).mono ?_; rintro e w4 ⟨rfl, hb4⟩; have H4 : Hid (Below wz.heap.size wz w4) := HP.out.1.trans (hb4.mono HP.out.1.size); clear hb4)
                | (go_at_call 61; refine (HMk.out _ H4.out).mono ?_; rintro e w5 ⟨rfl, hb5⟩; have H5 : Hid (Below wz.heap.size wz w5) := H4.out.trans (hb5.mono H4.out.size); obtain ⟨z0, z1, z2, z3, z4⟩ := HGc.out _ H5.out; clear hb5)
                | (go_at_call 70; refine (HSi.out _ H5.out).mono ?_; rintro e w6 ⟨rfl, U1, h1, h2, h3, h4⟩; have H6 : Hid (RTxAt w6 U1 ∧ UMv w5 U w6 U1 ∧ U1.ends = U.ends ∧ U1.row = if er1 = 0 then rowT1 U B i else U.row) := ⟨h1, h2, h3, h4⟩; clear h1 h2 h3 h4))
              have HB5 : Hid (Below w.heap.size w w5) := HZ.out.1.trans (H5.out.mono HZ.out.1.size)
              have HUu : Hid (U1.u = U.u) := H6.out.2.1.u
              have HU1e : Hid (U1.ends = false) := H6.out.2.2.1.trans HEnd.out
              by_cases h0 : er1 = 0
              · subst h0
                have HU1 : Hid (RTxAt w6 U1 ∧ UMv w U w6 U1 ∧ U1.ends = U.ends ∧ U1.row = rowT1 U B i) := ⟨H6.out.1, (UMv.on HB5.out).trans H6.out.2.1, H6.out.2.2.1, by have := H6.out.2.2.2; rw [if_pos rfl] at this; exact this⟩
                obtain ⟨o, E2, ho⟩ := make512
                have HA7 : Hid (OwnB (w6.alloc o) w6.heap.size 512 (zn 512) ∧ Below w6.heap.size w6 (w6.alloc o)) := ⟨ho w6, (Below.refl _ _).alloc (Nat.le_refl _) _⟩
                obtain ⟨er2, her2⟩ : ∃ er2, rwE (withRow U (rowT1 U B i)) n (i : Int) 512 = er2 := ⟨_, rfl⟩
                have HE2 : Hid (rwE (withRow U (rowT1 U B i)) n (i : Int) 512 = er2) := her2
                have HWr : Hid (Calls Tryz.prog 36 #[.pointer (some ⟨U.u, 0, none⟩), .int .i64 (i : Int), .slice (some ⟨w6.heap.size, 0, none⟩) 512 512] (w6.alloc o) (RwP (w6.alloc o) U1 er2 (rowT1 U B i ++ [⟨(i : Int), zn 512⟩]))) := by
                  have hs := ((HS.out.on HB5.out).mv H6.out.1 H6.out.2.1).on HA7.out.2
                  have := rxwrite_any (w6.alloc o) a R j hs.t U1 hs.x hs.r (by rw [HU1.out.2.2.2, rowT1, List.length_append, List.length_singleton]; omega) (i : Int) (some ⟨w6.heap.size, 0, none⟩) 512 512 (zn 512) HA7.out.1.bytes (zn_length _) (by omega)
                  rw [hs.nb, HUu.out, rwE_cong HU1.out.2.2.1 HU1.out.2.2.2, her2, HU1.out.2.2.2] at this
                  refine this.mono ?_
                  rintro e w' ⟨rfl, U', q1, q2, q3, q4⟩
                  exact ⟨rfl, U', q1, q2, q3, by rw [q4, HU1.out.2.2.2]⟩
                clear her2 ho
                by_cases h1 : er2 = 0
                · subst h1
                  go_wp2_with (go_at_call 36; refine HWr.out.mono ?_; rintro e w8 ⟨rfl, U2, h1, h2, h3, h4⟩; rw [if_pos rfl] at h4; have H8 : Hid (RTxAt w8 U2 ∧ UMv (w6.alloc o) U1 w8 U2 ∧ U2.ends = U1.ends ∧ U2.row = rowT1 U B i ++ [⟨(i : Int), zn 512⟩]) := ⟨h1, h2, h3, h4⟩; clear h1 h2 h3 h4)
                  go_ret2
                  refine ⟨i, 0, _, rfl, ⟨U2, H8.out.1, HU1.out.2.1.trans ((UMv.on HA7.out.2).trans H8.out.2.1), H8.out.2.2.1.trans HU1.out.2.2.1, rfl⟩, .inl ⟨i, by rw [HFe.out]; exact HLoI.out.1, HLoI.out.2, .inr (.inr ⟨by rw [hAe.out]; exact HE1.out, HE2.out, rfl, rfl, H8.out.2.2.2⟩)⟩⟩
                · have h1' : ((er2 : Int) == 0) = false := by simp; exact h1
                  have HN2 : Hid (er2 ≠ 0) := h1
                  clear h1
                  have HBk : Hid (∀ wx U2, RTxAt wx U2 → U2.ends = false → U2.u = U.u → U2.row = rowT1 U B i → Calls Tryz.prog 63 #[.pointer (some ⟨U.u, 0, none⟩), .int .i64 (len : Int)] wx fun e w' => e = .returned (.int .i64 0) ∧ ∃ U3, RTxAt w' U3 ∧ UMv wx U2 w' U3 ∧ U3.ends = U2.ends ∧ U3.row = U.row) := fun wx U2 q1 q2 q3 q4 => by
                    have := back_to wx U U2 q1 q2 _ q4
                    rw [q3, HLe.out] at this
                    exact this
                  go_wp2_with (first
                    | (go_at_call 36; refine HWr.out.mono ?_; rintro e w8 ⟨rfl, U2, h1, h2, h3, h4⟩; rw [if_neg HN2.out] at h4; have H8 : Hid (RTxAt w8 U2 ∧ UMv (w6.alloc o) U1 w8 U2 ∧ U2.ends = U1.ends ∧ U2.row = rowT1 U B i) := ⟨h1, h2, h3, by rw [h4, HU1.out.2.2.2]⟩; clear h1 h2 h3 h4)
                    | (go_at_call 63; refine (HBk.out w8 U2 H8.out.1 (H8.out.2.2.1.trans HU1e.out) (H8.out.2.1.u.trans HUu.out) H8.out.2.2.2).mono ?_; rintro e w9 ⟨rfl, U3, h1, h2, h3, h4⟩; have H9 : Hid (RTxAt w9 U3 ∧ UMv w8 U2 w9 U3 ∧ U3.ends = U2.ends ∧ U3.row = U.row) := ⟨h1, h2, h3, h4⟩; clear h1 h2 h3 h4))
                  go_ret2
                  refine ⟨0, er2, _, rfl, ⟨U3, H9.out.1, HU1.out.2.1.trans ((UMv.on HA7.out.2).trans (H8.out.2.1.trans H9.out.2.1)), H9.out.2.2.1.trans (H8.out.2.2.1.trans HU1.out.2.2.1), rfl⟩, .inl ⟨i, by rw [HFe.out]; exact HLoI.out.1, HLoI.out.2, .inr (.inl ⟨by rw [hAe.out]; exact HE1.out, by rw [HE2.out]; exact HN2.out, rfl, HE2.out.symm, H9.out.2.2.2⟩)⟩⟩
              · have h0' : ((er1 : Int) == 0) = false := by simp; exact h0
                have HN1 : Hid (er1 ≠ 0) := h0
                have HU1 : Hid (RTxAt w6 U1 ∧ UMv w U w6 U1 ∧ U1.ends = U.ends ∧ U1.row = U.row) := ⟨H6.out.1, (UMv.on HB5.out).trans H6.out.2.1, H6.out.2.2.1, by have := H6.out.2.2.2; rw [if_neg h0] at this; exact this⟩
                have HBk : Hid (Calls Tryz.prog 63 #[.pointer (some ⟨U.u, 0, none⟩), .int .i64 (len : Int)] w6 fun e w' => e = .returned (.int .i64 0) ∧ ∃ U3, RTxAt w' U3 ∧ UMv w6 U1 w' U3 ∧ U3.ends = U1.ends ∧ U3.row = U.row) := by
                  have := back_to w6 U U1 HU1.out.1 HU1e.out [] (by rw [List.append_nil]; exact HU1.out.2.2.2)
                  rw [HUu.out, HLe.out] at this
                  exact this
                clear h0
                go_wp2_with (go_at_call 63; refine HBk.out.mono ?_; rintro e w9 ⟨rfl, U3, h1, h2, h3, h4⟩; have H9 : Hid (RTxAt w9 U3 ∧ UMv w6 U1 w9 U3 ∧ U3.ends = U1.ends ∧ U3.row = U.row) := ⟨h1, h2, h3, h4⟩; clear h1 h2 h3 h4)
                go_ret2
                refine ⟨0, er1, _, rfl, ⟨U3, H9.out.1, HU1.out.2.1.trans H9.out.2.1, H9.out.2.2.1.trans HU1.out.2.2.1, rfl⟩, .inl ⟨i, by rw [HFe.out]; exact HLoI.out.1, HLoI.out.2, .inl ⟨by rw [hAe.out, HE1.out]; exact HN1.out, rfl, by rw [hAe.out]; exact HE1.out.symm, H9.out.2.2.2⟩⟩⟩
        all_goals
          have HKi : Hid (∀ j, j < 4096 * (i / 4096) → j < i) := by
            first
              | (have h0 : i % 4096 = 0 := hc; exact fun j hj => by omega)
              | (have h0 : i = lo := hc; exact fun j hj => by have h9 := HLo.out; unfold nD nM at h9; omega)
          clear hc
          go_upto_region 9 with (go_at_call 66; refine (HRA.out wr HQ.out.1).mono ?_; rintro e w3 ⟨pa2, nn, c2, rfl, h1, h2, h3⟩; have H3 : Hid ((B A).length = nn ∧ Below wz.heap.size wz w3 ∧ (E A = 0 → ∃ g, pa2 = some ⟨g, 0, none⟩ ∧ wr.heap.size ≤ g ∧ WB w3 g (B A))) := ⟨h1, HQ.out.1.trans (h2.mono HQ.out.1.size), h3⟩; clear h1 h2 h3 x0 x1 x2 x3 x4)
          by_cases hE : E A = 0
          · obtain ⟨h1, h2, h3⟩ := H3.out
            obtain ⟨g3, hpa, hg3, hW3⟩ := h3 hE
            have hlA := HLA.out hE
            rw [hlA] at h1
            subst h1
            rw [hE]
            have HP : Hid (Below wz.heap.size wz w3 ∧ Bytes w3 pa2 (B A) ∧ E A = 0) := ⟨h2, by rw [hpa]; exact hW3.bytes, hE⟩
            have HLA : Hid ((B A).length = 512) := hlA
            clear h2 h3 hg3 hW3 hlA hE H3 hpa
            go_upto_region 11 with fail
            obtain ⟨bg, off, rfl, hcc⟩ := (HP.out.2.1.at_).resolve_left (by intro e; have := HLA.out; rw [e] at this; simp at this)
            have cq := hcc q (by rw [HLA.out]; exact hq)
            obtain ⟨x, hx⟩ : ∃ x, nth (B A) q = x := ⟨_, rfl⟩
            have HX : Hid (nth (B A) q = x) := hx
            rw [hx] at cq
            have hxw := HP.out.2.1.wf q
            rw [hx] at hxw
            clear hx hcc
            obtain ⟨x0, x1, x2, x3, x4⟩ := HGc.out _ HP.out.1
            by_cases h255 : x = 255
            · subst h255
              have HT : Hid (f i = false) := by
                rw [HFi.out, x255 (B A) i (by rw [HQe.out]; exact HX.out)]; rfl
              go_wp2
              obtain ⟨r1, r2, r3⟩ := HEndR.out _ _ HT.out HP.out.2.2 HP.out.2.1
              exact ⟨⟨i + 1, _, _, by go_num, by omega, by omega, rfl, rfl, HP.out.1, r1, r2, r3⟩, by simp [intOf]; omega⟩
            · have h255' : ((x : Int) == 255) = false := by simp; exact h255
              have HBi : Hid (∀ wx, Below wz.heap.size wz wx → Calls Tryz.prog 69 #[.pointer (some ⟨U.u, 0, none⟩), .agg #[.int .i64 n, .int .i64 98, .int .i64 (gI n), .int .i64 (lo : Int), .int .i64 (gC n)], .int .i64 (i : Int)] wx fun e w' => e = .returned (.tuple #[.bool (bt (B A) (i % 4096)), .int .i64 0]) ∧ Below wx.heap.size wx w') := HBitA.out HP.out.2.2
              clear h255
              cases hbb : bt (B A) (i % 4096) with
              | true =>
                rw [hbb] at HBi
                have HT : Hid (f i = false) := by rw [HFi.out, hbb]; rfl
                clear hbb
                go_wp2_with (go_at_call 69; refine (HBi.out _ HP.out.1).mono ?_; rintro e w4 ⟨rfl, hb4⟩; have H4 : Hid (Below wz.heap.size wz w4 ∧ Bytes w4 (some ⟨bg, off, none⟩) (B A)) := ⟨HP.out.1.trans (hb4.mono HP.out.1.size), HP.out.2.1.on hb4⟩; clear hb4)
                obtain ⟨r1, r2, r3⟩ := HEndR.out _ _ HT.out HP.out.2.2 H4.out.2
                exact ⟨⟨i + 1, _, _, by go_num, by omega, by omega, rfl, rfl, H4.out.1, r1, r2, r3⟩, by simp [intOf]; omega⟩
              | false =>
                rw [hbb] at HBi
                have HLoI : Hid (IsLo f i ∧ ∀ k, 4096 * k ≤ i → E (98 + k) = 0) := ⟨⟨by rw [HFi.out, hbb]; rfl, HQ.out.2.1⟩, fun k hk => by
                  by_cases e : 4096 * k < i
                  · exact HQ.out.2.2.1 k e
                  · have : 98 + k = A := by have := hAe.out; omega
                    rw [this]; exact HP.out.2.2⟩
                have HSi : Hid (∀ wx, Below wz.heap.size wz wx → Calls Tryz.prog 70 #[.pointer (some ⟨U.u, 0, none⟩), .agg #[.int .i64 n, .int .i64 98, .int .i64 (gI n), .int .i64 (lo : Int), .int .i64 (gC n)], .int .i64 (i : Int)] wx (RwP wx U (rwE U n (A : Int) 512) (rowT1 U B i))) := HSetA.out HP.out.2.2 hbb
                have HMk : Hid (∀ wx, Below wz.heap.size wz wx → Calls Tryz.prog 61 #[.pointer (some ⟨U.u, 0, none⟩)] wx fun e w' => e = .returned (.tuple #[.int .i64 (U.row.length : Nat), .int .i64 0]) ∧ Below wx.heap.size wx w') := fun wx hb => by
                  have := rxmark_any wx U (HS.out.x.on (HZ.out.1.trans (hb.mono HZ.out.1.size)))
                  rw [HEnd.out, if_neg (by decide)] at this
                  exact this
                obtain ⟨er1, her1⟩ : ∃ er1, rwE U n (A : Int) 512 = er1 := ⟨_, rfl⟩
                have HE1 : Hid (rwE U n (A : Int) 512 = er1) := her1
                rw [her1] at HSi
                obtain ⟨len, hlen⟩ : ∃ len, U.row.length = len := ⟨_, rfl⟩
                have HLe : Hid (U.row.length = len) := hlen
                rw [hlen] at HMk
                clear hbb her1 hlen
                go_upto_region 18 with (first
                  | (go_at_call 69; refine (HBi.out _ HP.out.1).mono ?_; rintro e w4 ⟨rfl, hb4⟩; have H4 : Hid (Below wz.heap.size wz w4) := HP.out.1.trans (hb4.mono HP.out.1.size); clear hb4)
                  | (go_at_call 61; refine (HMk.out _ H4.out).mono ?_; rintro e w5 ⟨rfl, hb5⟩; have H5 : Hid (Below wz.heap.size wz w5) := H4.out.trans (hb5.mono H4.out.size); obtain ⟨z0, z1, z2, z3, z4⟩ := HGc.out _ H5.out; clear hb5)
                  | (go_at_call 70; refine (HSi.out _ H5.out).mono ?_; rintro e w6 ⟨rfl, U1, h1, h2, h3, h4⟩; have H6 : Hid (RTxAt w6 U1 ∧ UMv w5 U w6 U1 ∧ U1.ends = U.ends ∧ U1.row = if er1 = 0 then rowT1 U B i else U.row) := ⟨h1, h2, h3, h4⟩; clear h1 h2 h3 h4))
                have HB5 : Hid (Below w.heap.size w w5) := HZ.out.1.trans (H5.out.mono HZ.out.1.size)
                have HUu : Hid (U1.u = U.u) := H6.out.2.1.u
                have HU1e : Hid (U1.ends = false) := H6.out.2.2.1.trans HEnd.out
                by_cases h0 : er1 = 0
                · subst h0
                  have HU1 : Hid (RTxAt w6 U1 ∧ UMv w U w6 U1 ∧ U1.ends = U.ends ∧ U1.row = rowT1 U B i) := ⟨H6.out.1, (UMv.on HB5.out).trans H6.out.2.1, H6.out.2.2.1, by have := H6.out.2.2.2; rw [if_pos rfl] at this; exact this⟩
                  obtain ⟨o, E2, ho⟩ := make512
                  have HA7 : Hid (OwnB (w6.alloc o) w6.heap.size 512 (zn 512) ∧ Below w6.heap.size w6 (w6.alloc o)) := ⟨ho w6, (Below.refl _ _).alloc (Nat.le_refl _) _⟩
                  obtain ⟨er2, her2⟩ : ∃ er2, rwE (withRow U (rowT1 U B i)) n (i : Int) 512 = er2 := ⟨_, rfl⟩
                  have HE2 : Hid (rwE (withRow U (rowT1 U B i)) n (i : Int) 512 = er2) := her2
                  have HWr : Hid (Calls Tryz.prog 36 #[.pointer (some ⟨U.u, 0, none⟩), .int .i64 (i : Int), .slice (some ⟨w6.heap.size, 0, none⟩) 512 512] (w6.alloc o) (RwP (w6.alloc o) U1 er2 (rowT1 U B i ++ [⟨(i : Int), zn 512⟩]))) := by
                    have hs := ((HS.out.on HB5.out).mv H6.out.1 H6.out.2.1).on HA7.out.2
                    have := rxwrite_any (w6.alloc o) a R j hs.t U1 hs.x hs.r (by rw [HU1.out.2.2.2, rowT1, List.length_append, List.length_singleton]; omega) (i : Int) (some ⟨w6.heap.size, 0, none⟩) 512 512 (zn 512) HA7.out.1.bytes (zn_length _) (by omega)
                    rw [hs.nb, HUu.out, rwE_cong HU1.out.2.2.1 HU1.out.2.2.2, her2, HU1.out.2.2.2] at this
                    refine this.mono ?_
                    rintro e w' ⟨rfl, U', q1, q2, q3, q4⟩
                    exact ⟨rfl, U', q1, q2, q3, by rw [q4, HU1.out.2.2.2]⟩
                  clear her2 ho
                  by_cases h1 : er2 = 0
                  · subst h1
                    go_wp2_with (go_at_call 36; refine HWr.out.mono ?_; rintro e w8 ⟨rfl, U2, h1, h2, h3, h4⟩; rw [if_pos rfl] at h4; have H8 : Hid (RTxAt w8 U2 ∧ UMv (w6.alloc o) U1 w8 U2 ∧ U2.ends = U1.ends ∧ U2.row = rowT1 U B i ++ [⟨(i : Int), zn 512⟩]) := ⟨h1, h2, h3, h4⟩; clear h1 h2 h3 h4)
                    go_ret2
                    refine ⟨i, 0, _, rfl, ⟨U2, H8.out.1, HU1.out.2.1.trans ((UMv.on HA7.out.2).trans H8.out.2.1), H8.out.2.2.1.trans HU1.out.2.2.1, rfl⟩, .inl ⟨i, by rw [HFe.out]; exact HLoI.out.1, HLoI.out.2, .inr (.inr ⟨by rw [hAe.out]; exact HE1.out, HE2.out, rfl, rfl, H8.out.2.2.2⟩)⟩⟩
                  · have h1' : ((er2 : Int) == 0) = false := by simp; exact h1
                    have HN2 : Hid (er2 ≠ 0) := h1
                    clear h1
                    have HBk : Hid (∀ wx U2, RTxAt wx U2 → U2.ends = false → U2.u = U.u → U2.row = rowT1 U B i → Calls Tryz.prog 63 #[.pointer (some ⟨U.u, 0, none⟩), .int .i64 (len : Int)] wx fun e w' => e = .returned (.int .i64 0) ∧ ∃ U3, RTxAt w' U3 ∧ UMv wx U2 w' U3 ∧ U3.ends = U2.ends ∧ U3.row = U.row) := fun wx U2 q1 q2 q3 q4 => by
                      have := back_to wx U U2 q1 q2 _ q4
                      rw [q3, HLe.out] at this
                      exact this
                    go_wp2_with (first
                      | (go_at_call 36; refine HWr.out.mono ?_; rintro e w8 ⟨rfl, U2, h1, h2, h3, h4⟩; rw [if_neg HN2.out] at h4; have H8 : Hid (RTxAt w8 U2 ∧ UMv (w6.alloc o) U1 w8 U2 ∧ U2.ends = U1.ends ∧ U2.row = rowT1 U B i) := ⟨h1, h2, h3, by rw [h4, HU1.out.2.2.2]⟩; clear h1 h2 h3 h4)
                      | (go_at_call 63; refine (HBk.out w8 U2 H8.out.1 (H8.out.2.2.1.trans HU1e.out) (H8.out.2.1.u.trans HUu.out) H8.out.2.2.2).mono ?_; rintro e w9 ⟨rfl, U3, h1, h2, h3, h4⟩; have H9 : Hid (RTxAt w9 U3 ∧ UMv w8 U2 w9 U3 ∧ U3.ends = U2.ends ∧ U3.row = U.row) := ⟨h1, h2, h3, h4⟩; clear h1 h2 h3 h4))
                    go_ret2
                    refine ⟨0, er2, _, rfl, ⟨U3, H9.out.1, HU1.out.2.1.trans ((UMv.on HA7.out.2).trans (H8.out.2.1.trans H9.out.2.1)), H9.out.2.2.1.trans (H8.out.2.2.1.trans HU1.out.2.2.1), rfl⟩, .inl ⟨i, by rw [HFe.out]; exact HLoI.out.1, HLoI.out.2, .inr (.inl ⟨by rw [hAe.out]; exact HE1.out, by rw [HE2.out]; exact HN2.out, rfl, HE2.out.symm, H9.out.2.2.2⟩)⟩⟩
                · have h0' : ((er1 : Int) == 0) = false := by simp; exact h0
                  have HN1 : Hid (er1 ≠ 0) := h0
                  have HU1 : Hid (RTxAt w6 U1 ∧ UMv w U w6 U1 ∧ U1.ends = U.ends ∧ U1.row = U.row) := ⟨H6.out.1, (UMv.on HB5.out).trans H6.out.2.1, H6.out.2.2.1, by have := H6.out.2.2.2; rw [if_neg h0] at this; exact this⟩
                  have HBk : Hid (Calls Tryz.prog 63 #[.pointer (some ⟨U.u, 0, none⟩), .int .i64 (len : Int)] w6 fun e w' => e = .returned (.int .i64 0) ∧ ∃ U3, RTxAt w' U3 ∧ UMv w6 U1 w' U3 ∧ U3.ends = U1.ends ∧ U3.row = U.row) := by
                    have := back_to w6 U U1 HU1.out.1 HU1e.out [] (by rw [List.append_nil]; exact HU1.out.2.2.2)
                    rw [HUu.out, HLe.out] at this
                    exact this
                  clear h0
                  go_wp2_with (go_at_call 63; refine HBk.out.mono ?_; rintro e w9 ⟨rfl, U3, h1, h2, h3, h4⟩; have H9 : Hid (RTxAt w9 U3 ∧ UMv w6 U1 w9 U3 ∧ U3.ends = U1.ends ∧ U3.row = U.row) := ⟨h1, h2, h3, h4⟩; clear h1 h2 h3 h4)
                  go_ret2
                  refine ⟨0, er1, _, rfl, ⟨U3, H9.out.1, HU1.out.2.1.trans H9.out.2.1, H9.out.2.2.1.trans HU1.out.2.2.1, rfl⟩, .inl ⟨i, by rw [HFe.out]; exact HLoI.out.1, HLoI.out.2, .inl ⟨by rw [hAe.out, HE1.out]; exact HN1.out, rfl, by rw [hAe.out]; exact HE1.out.symm, H9.out.2.2.2⟩⟩⟩
          · obtain ⟨er, her⟩ : ∃ er, E A = er := ⟨_, rfl⟩
            have HErr : Hid (E A = er ∧ er ≠ 0) := ⟨her, by rw [← her]; exact hE⟩
            rw [her] at hE ⊢
            have hE' : ((er : Int) == 0) = false := by simp; exact hE
            clear her hE
            go_wp2
            go_ret2
            refine ⟨0, er, U.row, rfl, HSm.out _ (HZ.out.1.trans (H3.out.2.1.mono HZ.out.1.size)), .inr (.inr ⟨i / 4096, by unfold nM; omega, by rw [hAe.out, HErr.out.1]; exact HErr.out.2, fun k' hk' => HQ.out.2.2.1 k' (by omega), fun j hj => ?_, rfl, by rw [hAe.out, HErr.out.1], rfl⟩)⟩
            rw [HFe.out]; exact HQ.out.2.1 j (HKi.out j hj)
      · have hlt' : ¬ (i : Int) < (n : Int) := by omega
        have hin : i = n := by omega
        go_wp2
        go_ret2
        refine ⟨0, 90, U.row, rfl, HSm.out _ (HZ.out.1.trans (HQ.out.1.mono HZ.out.1.size)), .inr (.inl ⟨fun j hj => ?_, fun k hk => HQ.out.2.2.1 k ?_, rfl, rfl, rfl⟩)⟩
        · rw [HFe.out]; exact HQ.out.2.1 j (by omega)
        · unfold nM at hk; omega
end Go.Proofs.YtflienghgobmoaaGreatDoor

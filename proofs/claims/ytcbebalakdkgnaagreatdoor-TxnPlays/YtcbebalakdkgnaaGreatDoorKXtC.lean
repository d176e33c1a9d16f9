import Derived.Test.YtcbebalakdkgnaaGreatDoorKXtA
import Derived.BigQuiet
namespace Go.Proofs.YtcbebalakdkgnaaGreatDoor
open Go.RowKit Rec
variable {w0 w w1 wx w2 w' : World} {P j j' : Nat} {D D' : Dk} {R R' : RDk} {T T' : Tx} {U U' : RTx} {K K' : Kb} {row' : List Dn} {c2 c3 : Value}
/-- what is nobody's may be written -/
theorem XS.foreign {S : Nat → Prop} (h : XS w0 w P D R T U K j) (f : Fr S w w') (hS : ∀ i k, cps D R T U K P i k → ¬ S k) (h0 : ∀ k, S k → w0.heap.size ≤ k) : XS w0 w' P D R T U K j :=
  ⟨h.ws.fr f (fun k e => e.elim (hS 0 k) (hS 1 k)) h0, h.rs, h.tp.fr f (hS 2) rfl rfl, h.ux.fr f (hS 3), h.ur, h.ul, h.bk.fr f (hS 4), h.bn, h.im, f.heap h.px (hS 5 P rfl), h.sep, h.far⟩
theorem wr_len (h : XS w0 w P D R T U K j) (i : Int) (n : Nat) (x : List Int) : (if rwE U D.nb i n = 0 then U.row ++ [⟨i, x⟩] else U.row).length ≤ j + 1 := by
  have := h.ul
  split
  · rw [List.length_append]; simp; omega
  · omega
theorem one165 : ∀ i, 0 ≤ nth [165] i ∧ nth [165] i < 256 := fun i => by
  match i with
  | 0 => decide
  | i + 1 => simp [nth]
set_option maxRecDepth 100000 in
set_option maxHeartbeats 8000000 in
theorem xwritesA (h : XS w0 w P D R T U K j) (hj : j + 1 ≤ 4000000) (n x : Int) (p : Addr) (ka : Option Addr) (m cc kn kc : Nat) (B : List Int) (hB : Bytes w0 (some p) B) (hBl : B.length = m) (hm0 : 0 < m) (hBs : m ≤ 1048576) :
    Calls Tryz.prog 20 #[.pointer (some ⟨P, 0, none⟩), .agg #[.int .i64 2, .int .i64 n, .int .u8 x, .slice (some p) m cc, .slice ka kn kc]] w (PlP w0 P j K.kb) := by
  have HX : Hid (XS w0 w P D R T U K j) := h
  have HL := h.ul
  have HC : Hid (∀ wx, Below w.heap.size w wx → wx.cell? ⟨P, 2, none⟩ = some (.pointer (some ⟨T.t, 0, none⟩)) ∧ wx.cell? ⟨P, 3, none⟩ = some (.pointer (some ⟨U.u, 0, none⟩))) := fun wx hb => (h.on hb).ptrs.2.2
  have HBy0 : Hid (∀ wx, Below w.heap.size w wx → Bytes wx (some p) B) := fun wx hb => (hB.on h.ws.be).on hb
  have hpl : p.block < w0.heap.size := bytes_ltB hB (by intro e; rw [e] at hBl; simp at hBl; omega)
  have HPl : Hid (p.block < w0.heap.size) := hpl
  have hm00 : ¬ (m : Int) = 0 := by omega
  clear hB hpl
  clear h
  go_enter Tryz.func20, Tryz.ntmps20
  go_upto_region 1 with fail
  obtain ⟨Q, hQ⟩ : ∃ Q, w.heap.size = Q := ⟨_, rfl⟩
  obtain ⟨wb, hwb⟩ : ∃ wb, w.alloc (.cells #[.int .i64 2, .int .i64 n, .int .u8 x, .slice (some p) m cc, .slice ka kn kc] 45) = wb := ⟨_, rfl⟩
  have HB : Hid (Below w.heap.size w wb ∧ w.heap.size = Q) := ⟨by rw [← hwb]; exact (Below.refl _ _).alloc (Nat.le_refl _) _, hQ⟩
  have HBx : Hid (∀ wx, Below wb.heap.size wb wx → wx.cell? ⟨Q, 1, none⟩ = some (.int .i64 n) ∧ wx.cell? ⟨Q, 2, none⟩ = some (.int .u8 x) ∧ wx.cell? ⟨Q, 3, none⟩ = some (.slice (some p) m cc)) := fun wx hb => by
    rw [← hwb, ← hQ] at *
    exact ⟨box_at hb 1, box_at hb 2, box_at hb 3⟩
  obtain ⟨b1, b2, b3⟩ := HBx.out wb (Below.refl _ _)
  rw [hwb, hQ]
  clear hwb hQ
  have HWc : Hid (Below wb.heap.size wb wb) := Below.refl _ _
  have HBy : Hid (∀ wx, Below wb.heap.size wb wx → Bytes wx (some p) B) := fun wx hb => HBy0.out wx (HB.out.1.trans (hb.mono HB.out.1.size))
  have HN : Hid (B.length = m ∧ m ≤ 1048576) := ⟨hBl, hBs⟩
  have hbw : Below w.heap.size w wb := HB.out.1.trans (HWc.out.mono HB.out.1.size)
  have HWw : Hid (Below w.heap.size w wb) := hbw
  clear hbw hBl
  go_upto_region 6 with (first
    | (at_builtin; refine wp_bown rfl (.tmp 18) (.tmp 19) rfl (.slice none 0 0) 0 [] rfl (BL.zero (w0 := wb) (Below.refl _ _)).o.row p m cc B rfl hm0 HN.out.1 (HBy.out _ (Below.refl _ _)) (by omega) ?_
       intro g1 cap1 v1 h1 h2 h3
       go_frame
       have H1 : Hid (BL wb v1 (.slice (some ⟨g1, 0, none⟩) m cap1) B) := (by
         have := (BL.zero (w0 := wb) (Below.refl wb.heap.size wb)).grow (k := 0) (m := m) rfl HN.out.1 (HBy.out _ (Below.refl _ _)).wf (by omega) (Below.refl _ _) h1 h2 h3
         rw [Nat.zero_add, List.nil_append] at this
         exact this)
       clear h1 h2 h3))
  have HV1 : Hid (Below v1.heap.size v1 (v1.alloc (.cells #[.int .u8 165] 5))) := (Below.refl _ _).alloc (Nat.le_refl _) _
  go_upto_region 7 with (first
    | (at_builtin; refine wp_bown rfl (.tmp 21) (.tmp 22) rfl (.slice (some ⟨g1, 0, none⟩) m cap1) m B (congrArg (fun q => Value.slice (some ⟨g1, 0, none⟩) q cap1) (Nat.zero_add m)) ((H1.out.on HV1.out).row HN.out.1) ⟨v1.heap.size, 0, none⟩ 1 1 [165] rfl (by decide) rfl (bytesL v1 [165] (by simp) one165).bytes (by omega) ?_
       intro g2 cap2 v2 h1 h2 h3
       go_frame
       have H2 : Hid (BL wb v2 (.slice (some ⟨g2, 0, none⟩) (m + 1) cap2) (B ++ [165])) := H1.out.grow (k := m) (m := 1) HN.out.1 rfl one165 (by omega) HV1.out h1 h2 h3
       clear h1 h2 h3 H1))
  clear b1 b2 b3
  have hlB : (B ++ [165]).length = m + 1 := by rw [List.length_append, HN.out.1]; rfl
  have hO : OwnB v2 g2 cap2 (B ++ [165]) := ownB_of (H2.out.row hlB) hlB (by omega) H2.out.wf
  have H2b : Hid (OwnB v2 g2 cap2 (B ++ [165]) ∧ wb.heap.size ≤ g2 ∧ Below wb.heap.size wb v2) := ⟨hO, H2.out.o.far g2 rfl, H2.out.o.bel⟩
  have hcp : m + 1 ≤ cap2 := by have := hO.room; rw [hlB] at this; exact this
  have hi2 : (m : Int) ≤ (cap2 : Int) := by omega
  have hi0 : (0 : Int) ≤ (m : Int) := by omega
  clear H2 hO hlB
  have hbv : Below w.heap.size w v2 := HWw.out.trans (H2b.out.2.2.mono HWw.out.size)
  have hbv2 : Below wb.heap.size wb v2 := HWc.out.trans (H2b.out.2.2.mono HWc.out.size)
  have HV : Hid (XS w0 v2 P D R T U K j ∧ Below w.heap.size w v2) := ⟨HX.out.on hbv, hbv⟩
  have HBf : Hid (∀ wx, OwnB wx g2 cap2 (B ++ [165]) → Bytes wx (some ⟨g2, 0, none⟩) B) := fun wx ho => by
    have hl := HN.out.1
    refine ⟨by have := HN.out.2; omega, (HBy.out _ (Below.refl _ _)).wf, .inr ⟨g2, 0, rfl, fun i hi => ?_⟩⟩
    have := ho.cell i (by rw [List.length_append]; omega)
    rw [nth_app_l _ _ _ hi] at this
    rw [Nat.zero_add]; exact this
  obtain ⟨c2, c3⟩ := HC.out v2 hbv
  obtain ⟨b1, _, _⟩ := HBx.out v2 hbv2
  clear hbv hbv2
  have hS0 : v2.drew.cell? ⟨P, 2, none⟩ = some (.pointer (some ⟨T.t, 0, none⟩)) ∧ v2.drew.cell? ⟨Q, 1, none⟩ = some (.int .i64 n) := ⟨c2, b1⟩
  have HD0 : Hid (Below v2.heap.size v2 v2.drew) := (Below.refl _ _).drew
  obtain ⟨E, hE⟩ : ∃ E, rwE U D.nb n m = E := ⟨_, rfl⟩
  have HE : Hid (rwE U D.nb n m = E) := hE
  have HPW : Hid (Calls Tryz.prog 43 #[.pointer (some ⟨T.t, 0, none⟩), .int .i64 n, .slice (some ⟨g2, 0, none⟩) m cap2] v2.drew fun e w1 => e = .returned (.int .i64 E) ∧ ∃ T', HalfT v2.drew w1 T T' U D (if E = 0 then U.row ++ [⟨n, B⟩] else U.row)) := by
    have := half_write (HV.out.1.on HD0.out) (by omega) n (some ⟨g2, 0, none⟩) m cap2 B (HBf.out _ (H2b.out.1.on HD0.out)) HN.out.1
    rw [hE] at this; exact this
  have HWL := wr_len HX.out n m B
  rw [hE] at HWL
  clear hE
  go_region_held3 (fun w' => w'.cell? ⟨P, 2, none⟩ = some (.pointer (some ⟨T.t, 0, none⟩)) ∧ w'.cell? ⟨Q, 1, none⟩ = some (.int .i64 n)) (first | exact hS0 | exact hS1 | go_keep)
    (first
      | (go_at_call 43; refine HPW.out.mono ?_; rintro e w3 ⟨rfl, T', hT⟩
         have H3 : Hid (HalfT v2.drew w3 T T' U D (if E = 0 then U.row ++ [⟨n, B⟩] else U.row)) := hT
         have hm := (HV.out.1.on HD0.out).midw hT (Below.refl _ _)
         have hQ2 : w3.cell? ⟨Q, 1, none⟩ = some (.int .i64 n) := hT.mv.cell hS0.2 (fun e => by have h8 : Q < w.heap.size := HX.out.lt 2 Q e; have h5 := HB.out.2; omega)
         have hS1 : w3.cell? ⟨P, 2, none⟩ = some (.pointer (some ⟨T.t, 0, none⟩)) ∧ w3.cell? ⟨Q, 1, none⟩ = some (.int .i64 n) := ⟨(px_ptrs hm.2.2).2.2.1, hQ2⟩
         have HM3 : Hid ((RTxAt w3 U ∧ RT w3 D.abs R (200 * j)) ∧ w3.cell? ⟨P, 3, none⟩ = some (.pointer (some ⟨U.u, 0, none⟩)) ∧ w3.cell? ⟨Q, 1, none⟩ = some (.int .i64 n)) := ⟨⟨hm.1, hm.2.1⟩, (px_ptrs hm.2.2).2.2.2, hQ2⟩
         clear hT hm hQ2))
  clear hS0 hS1 c2 c3 b1 HPW
  have hgT : ¬ T.all g2 := fun e => by have h8 : g2 < w.heap.size := HX.out.lt 2 g2 e; have := H2b.out.2.1; have := HWw.out.size; omega
  have HO3 : Hid (OwnB w3 g2 cap2 (B ++ [165]) ∧ Bytes w3 (some p) B) := ⟨ownB_fr (H2b.out.1.on HD0.out) H3.out.mv hgT, by
    refine bytes_frE (HBy.out v2.drew (H2b.out.2.2.trans (HD0.out.mono H2b.out.2.2.size))) H3.out.mv (fun hne q hq e => ?_)
    cases hq
    have h8 := HPl.out; have h9 := HX.out.far 2 p.block e; omega⟩
  obtain ⟨c3, b1⟩ := HM3.out.2
  go_upto_region 8 with fail
  have hS0 : w3.drew.cell? ⟨P, 3, none⟩ = some (.pointer (some ⟨U.u, 0, none⟩)) ∧ w3.drew.cell? ⟨Q, 1, none⟩ = some (.int .i64 n) := ⟨c3, b1⟩
  have HD3 : Hid (Below w3.heap.size w3 w3.drew) := (Below.refl _ _).drew
  have HRW : Hid (Calls Tryz.prog 44 #[.pointer (some ⟨U.u, 0, none⟩), .int .i64 n, .slice (some p) m cc] w3.drew fun e w' => e = .returned (.int .i64 E) ∧ ∃ U', RTxAt w' U' ∧ UMv w3.drew U w' U' ∧ U'.ends = U.ends ∧ U'.row = if E = 0 then U.row ++ [⟨n, B⟩] else U.row) := by
    have := rxwrite_any w3.drew D.abs R (200 * j) (HM3.out.1.2.on HD3.out) U (HM3.out.1.1.on HD3.out) HX.out.ur (by omega) n (some p) m cc B (HO3.out.2.on HD3.out) HN.out.1 (by omega)
    have e : D.abs.nb = D.nb := rfl
    rw [e, HE.out] at this; exact this
  go_region_held3 (fun w' => w'.cell? ⟨P, 3, none⟩ = some (.pointer (some ⟨U.u, 0, none⟩)) ∧ w'.cell? ⟨Q, 1, none⟩ = some (.int .i64 n)) (first | exact hS0 | exact hS1 | go_keep)
    (first
      | (go_at_call 44; refine HRW.out.mono ?_; rintro e w4 ⟨rfl, U', h1, h2, h3, h4⟩
         have H4 : Hid (UMv w3.drew U w4 U') := h2
         have HX4 : Hid (XS w0 w4 P D R T' U' K (j + 1)) := (HV.out.1.on HD0.out).half H3.out HD3.out h1 h2 h3 h4 HWL (by omega)
         have hS1 : w4.cell? ⟨P, 3, none⟩ = some (.pointer (some ⟨U.u, 0, none⟩)) ∧ w4.cell? ⟨Q, 1, none⟩ = some (.int .i64 n) := ⟨(by rw [HX4.out.ptrs.2.2.2, h2.u]), h2.fr.cell hS0.2 (fun e => by have h8 : Q < w.heap.size := HX.out.lt 3 Q e; have h5 := HB.out.2; omega)⟩
         clear h1 h2 h3 h4))
  clear hS0 hS1 c3 b1 HRW
  have hgU : ¬ U.all g2 := fun e => by have h8 : g2 < w.heap.size := HX.out.lt 3 g2 e; have := H2b.out.2.1; have := HWw.out.size; omega
  have HO4 : Hid (OwnB w4 g2 cap2 (B ++ [165]) ∧ Bytes w4 (some p) B) := ⟨ownB_fr (HO3.out.1.on HD3.out) H4.out.fr hgU, by
    refine bytes_frE (HO3.out.2.on HD3.out) H4.out.fr (fun hne q hq e => ?_)
    cases hq
    have h8 := HPl.out; have h9 := HX.out.far 3 p.block e; omega⟩
  clear hgT hgU
  obtain ⟨s, hs⟩ : ∃ s, strOfNums B = s := ⟨_, rfl⟩
  have cv1 : ∀ q, (convert 42 9 (.slice (some ⟨g2, 0, none⟩) m cap2)).run Tryz.prog (w4.drewN q) = .ok (.string s) (w4.drewN q) := fun q => by rw [← hs]; exact str_opt ((HBf.out _ HO4.out.1).on (below_drewN (Below.refl _ w4) q)) HN.out.1
  have cv2 : ∀ q, (convert 42 9 (.slice (some p) m cc)).run Tryz.prog (w4.drewN q) = .ok (.string s) (w4.drewN q) := fun q => by rw [← hs]; exact str_opt (HO4.out.2.on (below_drewN (Below.refl _ w4) q)) HN.out.1
  have c165 : w4.cell? ⟨g2, m, none⟩ = some (.int .u8 165) := by
    have := HO4.out.1.cell m (by rw [List.length_append, HN.out.1]; simp)
    rw [nth_app_r _ _ _ (by rw [HN.out.1]; exact Nat.le_refl _), HN.out.1, Nat.sub_self] at this
    exact this
  have hi1 : (m : Int) < ((m + 1 : Nat) : Int) := by omega
  clear hs
  go_upto_region 9 with fail
  go_quiet (fail)
  clear cv1 cv2 c165
  have HFo : Hid (∀ wy, XS w0 wy P D R T' U' K (j + 1) → ∀ L : List Int, L.length = m + 1 → OwnB wy g2 cap2 L → ∀ q c, q < m + 1 → 0 ≤ c ∧ c < 256 → XS w0 (wy.setCell ⟨g2, q, none⟩ (.int .u8 c)) P D R T' U' K (j + 1) ∧ OwnB (wy.setCell ⟨g2, q, none⟩ (.int .u8 c)) g2 cap2 (L.set q c)) := by
    have hge : w.heap.size ≤ g2 := Nat.le_trans HWw.out.size H2b.out.2.1
    have hlt2 : g2 < v2.heap.size := H2b.out.1.lt
    have hs3 := H3.out.mv.size
    have hs3' : v2.heap.size ≤ w3.heap.size := hs3
    have hne : ∀ i, ¬ cps D R T' U' K P i g2 := fun i e => by
      match i, e with
      | 0, e => have := HX.out.lt 0 g2 e; omega
      | 1, e => have := HX.out.lt 1 g2 e; omega
      | 2, e =>
        rcases H3.out.al g2 e with e | e
        · have := HX.out.lt 2 g2 e; omega
        · have e : v2.heap.size ≤ g2 := e; omega
      | 3, e =>
        rcases H4.out.al g2 e with e | e
        · have := HX.out.lt 3 g2 e; omega
        · have e : w3.heap.size ≤ g2 := e; omega
      | 4, e => have := HX.out.lt 4 g2 e; omega
      | 5, e => have := HX.out.lt 5 g2 e; omega
      | _ + 6, e => exact e.elim
    exact fun wy hX L hl hO q c hq hc => ⟨hX.foreign Fr.set (fun i k e e2 => by subst e2; exact hne i e) (fun k e => by subst e; have := HX.out.ws.be.size; omega), hO.set q c (by omega) hc⟩
  obtain ⟨w5, hw5⟩ : ∃ w5, w4.drewN nq = w5 := ⟨_, rfl⟩
  have H5 : Hid (XS w0 w5 P D R T' U' K (j + 1) ∧ ∃ L : List Int, L.length = m + 1 ∧ OwnB w5 g2 cap2 L) := by
    rw [← hw5]
    have hb := below_drewN (Below.refl w4.heap.size w4) nq
    exact ⟨HX4.out.on hb, B ++ [165], by rw [List.length_append, HN.out.1]; rfl, HO4.out.1.on hb⟩
  rw [hw5]
  clear hw5
  go_wp2
  go_loopw [9, 66] (fun _ s66 wr => ∃ k : Nat, k ≤ m + 1 ∧ s66 = .int .i64 k ∧ XS w0 wr P D R T' U' K (j + 1) ∧ ∃ L : List Int, L.length = m + 1 ∧ OwnB wr g2 cap2 L) (fun _ s66 _ => m + 1 - (intOf s66).toNat)
  case atStart => exact ⟨0, Nat.zero_le _, rfl, H5.out.1, H5.out.2⟩
  case round =>
    obtain ⟨k, hk, rfl, hX, L, hLl, hO⟩ := hrel
    have HR : Hid (XS w0 wr P D R T' U' K (j + 1) ∧ L.length = m + 1 ∧ OwnB wr g2 cap2 L) := ⟨hX, hLl, hO⟩
    clear hX hLl hO H5
    by_cases hlt : k < m + 1
    · have d0 : wr.cell? ⟨g2, k, none⟩ = some (.int .u8 (nth L k)) := HR.out.2.2.cell k (by rw [HR.out.2.1]; exact hlt)
      have f0 : wr.frozen? ⟨g2, k, none⟩ = false := HR.out.2.2.frozen k
      have hw := HR.out.2.2.wf k
      obtain ⟨c, hc⟩ : ∃ c, nth L k = c := ⟨_, rfl⟩
      rw [hc] at d0 hw
      obtain ⟨hw0, hw1⟩ := hw
      clear hc
      by_cases h101 : c + 101 < 256
      · have HS := HFo.out wr HR.out.1 L HR.out.2.1 HR.out.2.2 k (c + 101) hlt (by omega)
        have HS2 : Hid (XS w0 (wr.setCell ⟨g2, k, none⟩ (.int .u8 (c + 101))) P D R T' U' K (j + 1) ∧ OwnB (wr.setCell ⟨g2, k, none⟩ (.int .u8 (c + 101))) g2 cap2 (L.set k (c + 101))) := HS
        have e8 : IntKind.u8.wrap (c + 101) = c + 101 := by
          show (c + 101) % 256 = c + 101
          omega
        clear HS
        go_wp2
        exact ⟨⟨k + 1, hlt, rfl, HS2.out.1, _, by rw [List.length_set]; exact HR.out.2.1, HS2.out.2⟩, by simp [intOf]; omega⟩
      · have HS := HFo.out wr HR.out.1 L HR.out.2.1 HR.out.2.2 k (c - 155) hlt (by omega)
        have HS2 : Hid (XS w0 (wr.setCell ⟨g2, k, none⟩ (.int .u8 (c - 155))) P D R T' U' K (j + 1) ∧ OwnB (wr.setCell ⟨g2, k, none⟩ (.int .u8 (c - 155))) g2 cap2 (L.set k (c - 155))) := HS
        have e8 : IntKind.u8.wrap (c + 101) = c - 155 := by
          show (c + 101) % 256 = c - 155
          omega
        clear HS
        go_wp2
        exact ⟨⟨k + 1, hlt, rfl, HS2.out.1, _, by rw [List.length_set]; exact HR.out.2.1, HS2.out.2⟩, by simp [intOf]; omega⟩
    · go_wp2
      go_ret
      exact ⟨rfl, D, R, T', U', K, HR.out.1, rfl⟩

set_option maxRecDepth 100000 in
set_option maxHeartbeats 8000000 in
theorem xwritesB (h : XS w0 w P D R T U K j) (hj : j + 1 ≤ 4000000) (n x : Int) (hxb : 0 ≤ x ∧ x < 256) (ba ka : Option Addr) (bc kn kc : Nat) :
    Calls Tryz.prog 20 #[.pointer (some ⟨P, 0, none⟩), .agg #[.int .i64 2, .int .i64 n, .int .u8 x, .slice ba 0 bc, .slice ka kn kc]] w (PlP w0 P j K.kb) := by
  have HX : Hid (XS w0 w P D R T U K j) := h
  have HL := h.ul
  have HC : Hid (∀ wx, Below w.heap.size w wx → wx.cell? ⟨P, 2, none⟩ = some (.pointer (some ⟨T.t, 0, none⟩)) ∧ wx.cell? ⟨P, 3, none⟩ = some (.pointer (some ⟨U.u, 0, none⟩))) := fun wx hb => (h.on hb).ptrs.2.2
  have HLb : Hid (∀ wx, Calls Tryz.prog 42 #[.int .u8 x] wx fun e w' => e = .returned (.slice (some ⟨wx.heap.size, 0, none⟩) 512 512) ∧ OwnB w' wx.heap.size 512 (one x) ∧ Below wx.heap.size wx w') := fun wx => lblock_any wx x hxb
  clear h
  go_enter Tryz.func20, Tryz.ntmps20
  go_upto_region 1 with fail
  obtain ⟨Q, hQ⟩ : ∃ Q, w.heap.size = Q := ⟨_, rfl⟩
  obtain ⟨wb, hwb⟩ : ∃ wb, w.alloc (.cells #[.int .i64 2, .int .i64 n, .int .u8 x, .slice ba 0 bc, .slice ka kn kc] 45) = wb := ⟨_, rfl⟩
  have HB : Hid (Below w.heap.size w wb ∧ w.heap.size = Q) := ⟨by rw [← hwb]; exact (Below.refl _ _).alloc (Nat.le_refl _) _, hQ⟩
  have HBx : Hid (∀ wx, Below wb.heap.size wb wx → wx.cell? ⟨Q, 1, none⟩ = some (.int .i64 n) ∧ wx.cell? ⟨Q, 2, none⟩ = some (.int .u8 x) ∧ wx.cell? ⟨Q, 3, none⟩ = some (.slice ba 0 bc)) := fun wx hb => by
    rw [← hwb, ← hQ] at *
    exact ⟨box_at hb 1, box_at hb 2, box_at hb 3⟩
  obtain ⟨b1, b2, b3⟩ := HBx.out wb (Below.refl _ _)
  rw [hwb, hQ]
  clear hwb hQ
  go_upto_region 4 with (go_at_call 42; refine (HLb.out wb).mono ?_; rintro e wc ⟨rfl, hO, hb⟩; have HWc0 : Hid (Below wb.heap.size wb wc ∧ OwnB wc wb.heap.size 512 (one x)) := ⟨hb, hO⟩; clear hO hb)
  obtain ⟨g0, hg0⟩ : ∃ g0, wb.heap.size = g0 := ⟨_, rfl⟩
  obtain ⟨B, hBo⟩ : ∃ B, one x = B := ⟨_, rfl⟩
  
  have hBl : B.length = 512 := by rw [← hBo]; exact one_length _
  have hm0 : 0 < 512 := by omega
  have hBs : 512 ≤ 1048576 := by omega
  have HWc : Hid (Below wb.heap.size wb wc) := HWc0.out.1
  have HBy : Hid (∀ wx, Below wc.heap.size wc wx → Bytes wx (some ⟨g0, 0, none⟩) B) := fun wx hb => by rw [← hg0, ← hBo]; exact (HWc0.out.2.on hb).bytes
  have HPl : Hid (w.heap.size ≤ g0) := by rw [← hg0]; exact HB.out.1.size
  rw [hg0]
  clear hg0 hBo HLb
  have HN : Hid (B.length = 512 ∧ 512 ≤ 1048576) := ⟨hBl, hBs⟩
  have hbw : Below w.heap.size w wc := HB.out.1.trans (HWc.out.mono HB.out.1.size)
  have HWw : Hid (Below w.heap.size w wc) := hbw
  clear hbw hBl
  go_upto_region 6 with (first
    | (at_builtin; refine wp_bown rfl (.tmp 18) (.tmp 19) rfl (.slice none 0 0) 0 [] rfl (BL.zero (w0 := wc) (Below.refl _ _)).o.row ⟨g0, 0, none⟩ 512 512 B rfl hm0 HN.out.1 (HBy.out _ (Below.refl _ _)) (by omega) ?_
       intro g1 cap1 v1 h1 h2 h3
       go_frame
       have H1 : Hid (BL wc v1 (.slice (some ⟨g1, 0, none⟩) 512 cap1) B) := (by
         have := (BL.zero (w0 := wc) (Below.refl wc.heap.size wc)).grow (k := 0) (m := 512) rfl HN.out.1 (HBy.out _ (Below.refl _ _)).wf (by omega) (Below.refl _ _) h1 h2 h3
         rw [List.nil_append] at this
         exact this)
       clear h1 h2 h3))
  have HV1 : Hid (Below v1.heap.size v1 (v1.alloc (.cells #[.int .u8 165] 5))) := (Below.refl _ _).alloc (Nat.le_refl _) _
  go_upto_region 7 with (first
    | (at_builtin; refine wp_bown rfl (.tmp 21) (.tmp 22) rfl (.slice (some ⟨g1, 0, none⟩) 512 cap1) 512 B (congrArg (fun q => Value.slice (some ⟨g1, 0, none⟩) q cap1) (Nat.zero_add 512)) ((H1.out.on HV1.out).row HN.out.1) ⟨v1.heap.size, 0, none⟩ 1 1 [165] rfl (by decide) rfl (bytesL v1 [165] (by simp) one165).bytes (by omega) ?_
       intro g2 cap2 v2 h1 h2 h3
       go_frame
       have H2 : Hid (BL wc v2 (.slice (some ⟨g2, 0, none⟩) (512 + 1) cap2) (B ++ [165])) := H1.out.grow (k := 512) (m := 1) HN.out.1 rfl one165 (by omega) HV1.out h1 h2 h3
       clear h1 h2 h3 H1))
  clear b1 b2 b3
  have hlB : (B ++ [165]).length = 512 + 1 := by rw [List.length_append, HN.out.1]; rfl
  have hO : OwnB v2 g2 cap2 (B ++ [165]) := ownB_of (H2.out.row hlB) hlB (by omega) H2.out.wf
  have H2b : Hid (OwnB v2 g2 cap2 (B ++ [165]) ∧ wc.heap.size ≤ g2 ∧ Below wc.heap.size wc v2) := ⟨hO, H2.out.o.far g2 rfl, H2.out.o.bel⟩
  have hcp : 512 + 1 ≤ cap2 := by have := hO.room; rw [hlB] at this; exact this
  have hi2 : (512 : Int) ≤ (cap2 : Int) := by omega
  have hi0 : (0 : Int) ≤ (512 : Int) := by omega
  clear H2 hO hlB
  have hbv : Below w.heap.size w v2 := HWw.out.trans (H2b.out.2.2.mono HWw.out.size)
  have hbv2 : Below wb.heap.size wb v2 := HWc.out.trans (H2b.out.2.2.mono HWc.out.size)
  have HV : Hid (XS w0 v2 P D R T U K j ∧ Below w.heap.size w v2) := ⟨HX.out.on hbv, hbv⟩
  have HBf : Hid (∀ wx, OwnB wx g2 cap2 (B ++ [165]) → Bytes wx (some ⟨g2, 0, none⟩) B) := fun wx ho => by
    have hl := HN.out.1
    refine ⟨by have := HN.out.2; omega, (HBy.out _ (Below.refl _ _)).wf, .inr ⟨g2, 0, rfl, fun i hi => ?_⟩⟩
    have := ho.cell i (by rw [List.length_append]; omega)
    rw [nth_app_l _ _ _ hi] at this
    rw [Nat.zero_add]; exact this
  obtain ⟨c2, c3⟩ := HC.out v2 hbv
  obtain ⟨b1, _, _⟩ := HBx.out v2 hbv2
  clear hbv hbv2
  have hS0 : v2.drew.cell? ⟨P, 2, none⟩ = some (.pointer (some ⟨T.t, 0, none⟩)) ∧ v2.drew.cell? ⟨Q, 1, none⟩ = some (.int .i64 n) := ⟨c2, b1⟩
  have HD0 : Hid (Below v2.heap.size v2 v2.drew) := (Below.refl _ _).drew
  obtain ⟨E, hE⟩ : ∃ E, rwE U D.nb n 512 = E := ⟨_, rfl⟩
  have HE : Hid (rwE U D.nb n 512 = E) := hE
  have HPW : Hid (Calls Tryz.prog 43 #[.pointer (some ⟨T.t, 0, none⟩), .int .i64 n, .slice (some ⟨g2, 0, none⟩) 512 cap2] v2.drew fun e w1 => e = .returned (.int .i64 E) ∧ ∃ T', HalfT v2.drew w1 T T' U D (if E = 0 then U.row ++ [⟨n, B⟩] else U.row)) := by
    have := half_write (HV.out.1.on HD0.out) (by omega) n (some ⟨g2, 0, none⟩) 512 cap2 B (HBf.out _ (H2b.out.1.on HD0.out)) HN.out.1
    rw [hE] at this; exact this
  have HWL := wr_len HX.out n 512 B
  rw [hE] at HWL
  clear hE
  go_region_held3 (fun w' => w'.cell? ⟨P, 2, none⟩ = some (.pointer (some ⟨T.t, 0, none⟩)) ∧ w'.cell? ⟨Q, 1, none⟩ = some (.int .i64 n)) (first | exact hS0 | exact hS1 | go_keep)
    (first
      | (go_at_call 43; refine HPW.out.mono ?_; rintro e w3 ⟨rfl, T', hT⟩
         have H3 : Hid (HalfT v2.drew w3 T T' U D (if E = 0 then U.row ++ [⟨n, B⟩] else U.row)) := hT
         have hm := (HV.out.1.on HD0.out).midw hT (Below.refl _ _)
         have hQ2 : w3.cell? ⟨Q, 1, none⟩ = some (.int .i64 n) := hT.mv.cell hS0.2 (fun e => by have h8 : Q < w.heap.size := HX.out.lt 2 Q e; have h5 := HB.out.2; omega)
         have hS1 : w3.cell? ⟨P, 2, none⟩ = some (.pointer (some ⟨T.t, 0, none⟩)) ∧ w3.cell? ⟨Q, 1, none⟩ = some (.int .i64 n) := ⟨(px_ptrs hm.2.2).2.2.1, hQ2⟩
         have HM3 : Hid ((RTxAt w3 U ∧ RT w3 D.abs R (200 * j)) ∧ w3.cell? ⟨P, 3, none⟩ = some (.pointer (some ⟨U.u, 0, none⟩)) ∧ w3.cell? ⟨Q, 1, none⟩ = some (.int .i64 n)) := ⟨⟨hm.1, hm.2.1⟩, (px_ptrs hm.2.2).2.2.2, hQ2⟩
         clear hT hm hQ2))
  clear hS0 hS1 c2 c3 b1 HPW
  have hgT : ¬ T.all g2 := fun e => by have h8 : g2 < w.heap.size := HX.out.lt 2 g2 e; have := H2b.out.2.1; have := HWw.out.size; omega
  have HO3 : Hid (OwnB w3 g2 cap2 (B ++ [165]) ∧ Bytes w3 (some ⟨g0, 0, none⟩) B) := ⟨ownB_fr (H2b.out.1.on HD0.out) H3.out.mv hgT, by
    refine bytes_frE (HBy.out v2.drew (H2b.out.2.2.trans (HD0.out.mono H2b.out.2.2.size))) H3.out.mv (fun hne q hq e => ?_)
    cases hq
    have h8 : g0 < w.heap.size := HX.out.lt 2 _ e; have h9 := HPl.out; omega⟩
  obtain ⟨c3, b1⟩ := HM3.out.2
  go_upto_region 8 with fail
  have hS0 : w3.drew.cell? ⟨P, 3, none⟩ = some (.pointer (some ⟨U.u, 0, none⟩)) ∧ w3.drew.cell? ⟨Q, 1, none⟩ = some (.int .i64 n) := ⟨c3, b1⟩
  have HD3 : Hid (Below w3.heap.size w3 w3.drew) := (Below.refl _ _).drew
  have HRW : Hid (Calls Tryz.prog 44 #[.pointer (some ⟨U.u, 0, none⟩), .int .i64 n, .slice (some ⟨g0, 0, none⟩) 512 512] w3.drew fun e w' => e = .returned (.int .i64 E) ∧ ∃ U', RTxAt w' U' ∧ UMv w3.drew U w' U' ∧ U'.ends = U.ends ∧ U'.row = if E = 0 then U.row ++ [⟨n, B⟩] else U.row) := by
    have := rxwrite_any w3.drew D.abs R (200 * j) (HM3.out.1.2.on HD3.out) U (HM3.out.1.1.on HD3.out) HX.out.ur (by omega) n (some ⟨g0, 0, none⟩) 512 512 B (HO3.out.2.on HD3.out) HN.out.1 (by omega)
    have e : D.abs.nb = D.nb := rfl
    rw [e, HE.out] at this; exact this
  go_region_held3 (fun w' => w'.cell? ⟨P, 3, none⟩ = some (.pointer (some ⟨U.u, 0, none⟩)) ∧ w'.cell? ⟨Q, 1, none⟩ = some (.int .i64 n)) (first | exact hS0 | exact hS1 | go_keep)
    (first
      | (go_at_call 44; refine HRW.out.mono ?_; rintro e w4 ⟨rfl, U', h1, h2, h3, h4⟩
         have H4 : Hid (UMv w3.drew U w4 U') := h2
         have HX4 : Hid (XS w0 w4 P D R T' U' K (j + 1)) := (HV.out.1.on HD0.out).half H3.out HD3.out h1 h2 h3 h4 HWL (by omega)
         have hS1 : w4.cell? ⟨P, 3, none⟩ = some (.pointer (some ⟨U.u, 0, none⟩)) ∧ w4.cell? ⟨Q, 1, none⟩ = some (.int .i64 n) := ⟨(by rw [HX4.out.ptrs.2.2.2, h2.u]), h2.fr.cell hS0.2 (fun e => by have h8 : Q < w.heap.size := HX.out.lt 3 Q e; have h5 := HB.out.2; omega)⟩
         clear h1 h2 h3 h4))
  clear hS0 hS1 c3 b1 HRW
  have hgU : ¬ U.all g2 := fun e => by have h8 : g2 < w.heap.size := HX.out.lt 3 g2 e; have := H2b.out.2.1; have := HWw.out.size; omega
  have HO4 : Hid (OwnB w4 g2 cap2 (B ++ [165]) ∧ Bytes w4 (some ⟨g0, 0, none⟩) B) := ⟨ownB_fr (HO3.out.1.on HD3.out) H4.out.fr hgU, by
    refine bytes_frE (HO3.out.2.on HD3.out) H4.out.fr (fun hne q hq e => ?_)
    cases hq
    have h8 : g0 < w.heap.size := HX.out.lt 3 _ e; have h9 := HPl.out; omega⟩
  clear hgT hgU
  obtain ⟨s, hs⟩ : ∃ s, strOfNums B = s := ⟨_, rfl⟩
  have cv1 : ∀ q, (convert 42 9 (.slice (some ⟨g2, 0, none⟩) 512 cap2)).run Tryz.prog (w4.drewN q) = .ok (.string s) (w4.drewN q) := fun q => by rw [← hs]; exact str_opt ((HBf.out _ HO4.out.1).on (below_drewN (Below.refl _ w4) q)) HN.out.1
  have cv2 : ∀ q, (convert 42 9 (.slice (some ⟨g0, 0, none⟩) 512 512)).run Tryz.prog (w4.drewN q) = .ok (.string s) (w4.drewN q) := fun q => by rw [← hs]; exact str_opt (HO4.out.2.on (below_drewN (Below.refl _ w4) q)) HN.out.1
  have c165 : w4.cell? ⟨g2, 512, none⟩ = some (.int .u8 165) := by
    have := HO4.out.1.cell 512 (by rw [List.length_append, HN.out.1]; simp)
    rw [nth_app_r _ _ _ (by rw [HN.out.1]; exact Nat.le_refl _), HN.out.1, Nat.sub_self] at this
    exact this
  have hi1 : (512 : Int) < ((512 + 1 : Nat) : Int) := by omega
  clear hs
  go_upto_region 9 with fail
  go_quiet (fail)
  clear cv1 cv2 c165
  have HFo : Hid (∀ wy, XS w0 wy P D R T' U' K (j + 1) → ∀ L : List Int, L.length = 512 + 1 → OwnB wy g2 cap2 L → ∀ q c, q < 512 + 1 → 0 ≤ c ∧ c < 256 → XS w0 (wy.setCell ⟨g2, q, none⟩ (.int .u8 c)) P D R T' U' K (j + 1) ∧ OwnB (wy.setCell ⟨g2, q, none⟩ (.int .u8 c)) g2 cap2 (L.set q c)) := by
    have hge : w.heap.size ≤ g2 := Nat.le_trans HWw.out.size H2b.out.2.1
    have hlt2 : g2 < v2.heap.size := H2b.out.1.lt
    have hs3 := H3.out.mv.size
    have hs3' : v2.heap.size ≤ w3.heap.size := hs3
    have hne : ∀ i, ¬ cps D R T' U' K P i g2 := fun i e => by
      match i, e with
      | 0, e => have := HX.out.lt 0 g2 e; omega
      | 1, e => have := HX.out.lt 1 g2 e; omega
      | 2, e =>
        rcases H3.out.al g2 e with e | e
        · have := HX.out.lt 2 g2 e; omega
        · have e : v2.heap.size ≤ g2 := e; omega
      | 3, e =>
        rcases H4.out.al g2 e with e | e
        · have := HX.out.lt 3 g2 e; omega
        · have e : w3.heap.size ≤ g2 := e; omega
      | 4, e => have := HX.out.lt 4 g2 e; omega
      | 5, e => have := HX.out.lt 5 g2 e; omega
      | _ + 6, e => exact e.elim
    exact fun wy hX L hl hO q c hq hc => ⟨hX.foreign Fr.set (fun i k e e2 => by subst e2; exact hne i e) (fun k e => by subst e; have := HX.out.ws.be.size; omega), hO.set q c (by omega) hc⟩
  obtain ⟨w5, hw5⟩ : ∃ w5, w4.drewN nq = w5 := ⟨_, rfl⟩
  have H5 : Hid (XS w0 w5 P D R T' U' K (j + 1) ∧ ∃ L : List Int, L.length = 512 + 1 ∧ OwnB w5 g2 cap2 L) := by
    rw [← hw5]
    have hb := below_drewN (Below.refl w4.heap.size w4) nq
    exact ⟨HX4.out.on hb, B ++ [165], by rw [List.length_append, HN.out.1]; rfl, HO4.out.1.on hb⟩
  rw [hw5]
  clear hw5
  go_wp2
  go_loopw [9, 66] (fun _ s66 wr => ∃ k : Nat, k ≤ 512 + 1 ∧ s66 = .int .i64 k ∧ XS w0 wr P D R T' U' K (j + 1) ∧ ∃ L : List Int, L.length = 512 + 1 ∧ OwnB wr g2 cap2 L) (fun _ s66 _ => 512 + 1 - (intOf s66).toNat)
  case atStart => exact ⟨0, Nat.zero_le _, rfl, H5.out.1, H5.out.2⟩
  case round =>
    obtain ⟨k, hk, rfl, hX, L, hLl, hO⟩ := hrel
    have HR : Hid (XS w0 wr P D R T' U' K (j + 1) ∧ L.length = 512 + 1 ∧ OwnB wr g2 cap2 L) := ⟨hX, hLl, hO⟩
    clear hX hLl hO H5
    by_cases hlt : k < 512 + 1
    · have d0 : wr.cell? ⟨g2, k, none⟩ = some (.int .u8 (nth L k)) := HR.out.2.2.cell k (by rw [HR.out.2.1]; exact hlt)
      have f0 : wr.frozen? ⟨g2, k, none⟩ = false := HR.out.2.2.frozen k
      have hw := HR.out.2.2.wf k
      obtain ⟨c, hc⟩ : ∃ c, nth L k = c := ⟨_, rfl⟩
      rw [hc] at d0 hw
      obtain ⟨hw0, hw1⟩ := hw
      clear hc
      by_cases h101 : c + 101 < 256
      · have HS := HFo.out wr HR.out.1 L HR.out.2.1 HR.out.2.2 k (c + 101) hlt (by omega)
        have HS2 : Hid (XS w0 (wr.setCell ⟨g2, k, none⟩ (.int .u8 (c + 101))) P D R T' U' K (j + 1) ∧ OwnB (wr.setCell ⟨g2, k, none⟩ (.int .u8 (c + 101))) g2 cap2 (L.set k (c + 101))) := HS
        have e8 : IntKind.u8.wrap (c + 101) = c + 101 := by
          show (c + 101) % 256 = c + 101
          omega
        clear HS
        go_wp2
        exact ⟨⟨k + 1, hlt, rfl, HS2.out.1, _, by rw [List.length_set]; exact HR.out.2.1, HS2.out.2⟩, by simp [intOf]; omega⟩
      · have HS := HFo.out wr HR.out.1 L HR.out.2.1 HR.out.2.2 k (c - 155) hlt (by omega)
        have HS2 : Hid (XS w0 (wr.setCell ⟨g2, k, none⟩ (.int .u8 (c - 155))) P D R T' U' K (j + 1) ∧ OwnB (wr.setCell ⟨g2, k, none⟩ (.int .u8 (c - 155))) g2 cap2 (L.set k (c - 155))) := HS
        have e8 : IntKind.u8.wrap (c + 101) = c - 155 := by
          show (c + 101) % 256 = c - 155
          omega
        clear HS
        go_wp2
        exact ⟨⟨k + 1, hlt, rfl, HS2.out.1, _, by rw [List.length_set]; exact HR.out.2.1, HS2.out.2⟩, by simp [intOf]; omega⟩
    · go_wp2
      go_ret
      exact ⟨rfl, D, R, T', U', K, HR.out.1, rfl⟩

end Go.Proofs.YtcbebalakdkgnaaGreatDoor

namespace Go.Proofs.YtcbebalakdkgnaaGreatDoor
open Go.RowKit Rec
variable {w0 w w1 wx w2 w' : World} {P j j' : Nat} {D D' : Dk} {R R' : RDk} {T T' : Tx} {U U' : RTx} {K K' : Kb} {row' : List Dn} {c2 c3 : Value}
set_option maxRecDepth 100000 in
set_option maxHeartbeats 8000000 in
theorem xplay2 (h : XS w0 w P D R T U K j) (hj : j + 1 ≤ 4000000) (q : OpX) (hq : OpXIn w0 q) (h2 : q.k = 2) :
    Calls Tryz.prog 8 #[.pointer (some ⟨P, 0, none⟩), .agg q.cs, .pointer (some ⟨K.kb, 0, none⟩)] w (PlP w0 P j K.kb) := by
  obtain ⟨k, n, x, ba, bn, bc, ka, kn, kc, B, L⟩ := q
  subst h2
  show Calls Tryz.prog 8 #[.pointer (some ⟨P, 0, none⟩), .agg #[.int .i64 2, .int .i64 n, .int .u8 x, .slice ba bn bc, .slice ka kn kc], .pointer (some ⟨K.kb, 0, none⟩)] w (PlP w0 P j K.kb)
  have HLs : Hid (∀ wx, Below w.heap.size w wx → Calls Tryz.prog 20 #[.pointer (some ⟨P, 0, none⟩), .agg #[.int .i64 2, .int .i64 n, .int .u8 x, .slice ba bn bc, .slice ka kn kc]] wx (PlP w0 P j K.kb)) := fun wx hb => by
    by_cases h0 : bn = 0
    · subst h0
      exact xwritesB (h.on hb) hj n x hq.x ba ka bc kn kc
    · obtain ⟨p, rfl⟩ : ∃ p, ba = some p := by
        have hbl : B.length = bn := hq.bl
        rcases hq.b.at_ with e | ⟨b, off, e, _⟩
        · have e : B = [] := e
          rw [e] at hbl; simp at hbl; omega
        · exact ⟨_, e⟩
      exact xwritesA (h.on hb) hj n x p ka bn bc kn kc B hq.b hq.bl (by omega) hq.bs
  clear h hq
  go_enter Tryz.func8, Tryz.ntmps8
  go_upto_region 1 with fail
  obtain ⟨Q, hQ⟩ : ∃ Q, w.heap.size = Q := ⟨_, rfl⟩
  obtain ⟨wb, hwb⟩ : ∃ wb, w.alloc (.cells #[.int .i64 2, .int .i64 n, .int .u8 x, .slice ba bn bc, .slice ka kn kc] 45) = wb := ⟨_, rfl⟩
  have HB : Hid (Below w.heap.size w wb) := by rw [← hwb]; exact (Below.refl _ _).alloc (Nat.le_refl _) _
  have b0 : wb.cell? ⟨Q, 0, none⟩ = some (.int .i64 2) := by rw [← hwb, ← hQ]; exact box_at (Below.refl _ _) 0
  have b1 : wb.cell? ⟨Q, 1, none⟩ = some (.int .i64 n) := by rw [← hwb, ← hQ]; exact box_at (Below.refl _ _) 1
  have b2 : wb.cell? ⟨Q, 2, none⟩ = some (.int .u8 x) := by rw [← hwb, ← hQ]; exact box_at (Below.refl _ _) 2
  have b3 : wb.cell? ⟨Q, 3, none⟩ = some (.slice ba bn bc) := by rw [← hwb, ← hQ]; exact box_at (Below.refl _ _) 3
  have b4 : wb.cell? ⟨Q, 4, none⟩ = some (.slice ka kn kc) := by rw [← hwb, ← hQ]; exact box_at (Below.refl _ _) 4
  rw [hwb, hQ]
  clear hwb hQ
  go_wp2_with (go_at_call 20; refine (HLs.out wb HB.out).mono ?_; rintro e w3 ⟨rfl, H⟩; have H4 : Hid (∃ D R T U K', XS w0 w3 P D R T U K' (j + 1) ∧ K'.kb = K.kb) := H; clear H)
  go_ret
  exact ⟨rfl, H4.out⟩
end Go.Proofs.YtcbebalakdkgnaaGreatDoor

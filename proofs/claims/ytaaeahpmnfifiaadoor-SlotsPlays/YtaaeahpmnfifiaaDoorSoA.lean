import Derived.Test.YtaaeahpmnfifiaaDoorSoO
namespace Go.Proofs.YtaaeahpmnfifiaaDoor
open Go.RowKit Rec Sc
theorem RowE.sl {B : Nat} {w : World} {v : Value} {xs : List ET} (h : RowE B w v xs) : ∃ a m, v = .slice a xs.length m ∧ EntAt w a xs := by
  by_cases hx : xs = []
  · subst hx
    rcases h.row.2 with ⟨e, _⟩ | ⟨g, cap, cur, e, _⟩
    · exact ⟨none, 0, e, .inl rfl⟩
    · exact ⟨_, cap, e, .inl rfl⟩
  · obtain ⟨g, cap, e, ho, _⟩ := h.some hx
    exact ⟨_, cap, e, ho.ents⟩
theorem RowE.lt {B : Nat} {w : World} {v : Value} {xs : List ET} (h : RowE B w v xs) {b : Nat} (hb : v.ownBlock = Option.some b) : b < w.heap.size := by
  rcases h.row.2 with ⟨e, _⟩ | ⟨g2, cap2, cur2, e, _, h2, _⟩
  · rw [e] at hb; cases hb
  · rw [e] at hb
    have h4 : g2 = b := by cases hb; rfl
    rw [← h4]; exact heap_lt h2
theorem sub8 {w7 wa w8 : World} {g8 kb B : Nat} {T : List ET} {S1 : Nat → Prop} {V : Nat → Value} {X : Nat → List Value} (c8 : Nat) (hK : BkW w7 kb B S1 V X) (hA : Below w7.heap.size w7 wa) (h1 : EntAt w8 (some ⟨g8, 0, none⟩) T) (h2 : w7.heap.size = g8 ∨ wa.heap.size ≤ g8) (h3 : Fr (fun k => k = w7.heap.size) wa w8) (h4 : g8 < w8.heap.size) :
    ∃ S2 : Nat → Prop, (∀ k, S2 k → S1 k) ∧ BkW w8 kb B S2 V X ∧ Below w7.heap.size w7 w8 ∧ LsAt w8 B S2 (.slice (some ⟨g8, 0, none⟩) T.length c8) T ∧ w7.heap.size ≤ g8 := by
  have hb : Below w7.heap.size w7 w8 := hA.trans (h3.below _ (fun k hk => by have hk : k = w7.heap.size := hk; omega) hA.size)
  have hg : w7.heap.size ≤ g8 := by rcases h2 with e | e; exact Nat.le_of_eq e; exact Nat.le_trans hA.size e
  have hbz := hK.bz
  refine ⟨fun x => S1 x ∧ x ≠ g8, fun k hk => hk.1, (hK.on hb).less ⟨hK.kb1.2, ?_⟩ (fun i hi b e => ⟨(hK.own i hi b e).2.1, ?_⟩) (fun b hb' => ⟨hK.big b (Nat.le_trans hb.size hb'), ?_⟩), hb, ⟨_, c8, rfl, h1, fun p hp => ?_⟩, hg⟩
  · have := heap_lt hK.box; omega
  · have := hK.lt hi e; omega
  · omega
  · cases hp
    exact ⟨Nat.le_trans hbz hg, fun e => e.2 rfl⟩
theorem sub9 {w8 wa w9 : World} {kb B b cap n : Nat} {S : Nat → Prop} {V : Nat → Value} {X : Nat → List Value} {u v : Value} (h : BkW w8 kb B S V X) (hA : Below w8.heap.size w8 wa) (i : Nat) (hi : i < 4) (hn : (X i).length = n) (hv : V i = v)
    (h1 : w9.ownsRow 0 36 1 (.slice (some ⟨b, 0, none⟩) (n + 1) cap) (n + 1) (X i ++ [u])) (h2 : Fr (fun k => v.ownBlock = some k) wa w9) (h3 : v.ownBlock = some b ∨ wa.heap.size ≤ b) :
    BkW (w9.setCell ⟨kb, i, none⟩ (.slice (some ⟨b, 0, none⟩) (n + 1) cap)) kb B S (upd V i (.slice (some ⟨b, 0, none⟩) (n + 1) cap)) (upd X i (X i ++ [u])) ∧ Fr S w8 (w9.setCell ⟨kb, i, none⟩ (.slice (some ⟨b, 0, none⟩) (n + 1) cap)) ∧ Below B w8 (w9.setCell ⟨kb, i, none⟩ (.slice (some ⟨b, 0, none⟩) (n + 1) cap)) ∧ w9.heap[kb]? = some (.cells #[V 0, V 1, V 2, V 3] 58 (0, 0)) := by
  obtain ⟨a1, a2, a3⟩ := (h.on hA).step2 hi hn hv h1 h2 h3
  exact ⟨a1, (below_fr hA S).trans a2 (fun k hk => .inl hk), (hA.mono h.bz).trans a3, (h.on hA).mid hi (by rw [hv]; exact h2)⟩
/-- one more behind the list that is written full -/
theorem sub13 {w7 wa w8 : World} {b8 c8 kb B n : Nat} {L : List ET} {q : ET} {m : Value} {S1 : Nat → Prop} {V : Nat → Value} {X : Nat → List Value} (hK : BkW w7 kb B S1 V X) (hA : Below w7.heap.size w7 wa) (hm2 : ∀ b, m.ownBlock = some b → ¬ S1 b ∧ B ≤ b) (hn : L.length + 1 = n) (h1 : OwnE w8 b8 c8 (L ++ [q])) (h3 : Fr (fun k => m.ownBlock = some k) wa w8) (h2 : m.ownBlock = some b8 ∨ wa.heap.size ≤ b8) (h4 : ∃ a c, m = .slice a L.length c ∧ EntAt w8 a L) :
    ∃ S2 : Nat → Prop, (∀ k, S2 k → S1 k) ∧ BkW w8 kb B S2 V X ∧ Fr (fun x => ¬ S1 x ∧ m.ownBlock = some x) w7 w8 ∧ Below B w7 w8 ∧ LsAt w8 B S2 (.slice (some ⟨b8, 0, none⟩) n c8) (L ++ [q]) ∧ LsAt w8 B S2 m L := by
  have hf : Fr (fun k => m.ownBlock = some k) w7 w8 := (below_fr hA _).trans h3 (fun k hk => .inl hk)
  have hbz := hK.bz
  have hkS : ∀ x, S1 x → m.ownBlock ≠ some x := fun x hx e => (hm2 x e).1 hx
  have hK8 : BkW w8 kb B S1 V X := hK.fr hf (fun e => hkS _ hK.kb1.2 e) (fun i hi b e e2 => hkS _ (hK.own i hi b e).2.1 e2)
  have hlt := h1.lt
  have hk7 := heap_lt hK.box
  have hnb : ∀ x, x < w7.heap.size → S1 x → x ≠ b8 := by
    intro x hx hs e
    subst e
    rcases h2 with e | e
    · exact hkS _ hs e
    · have := hA.size; omega
  refine ⟨fun x => S1 x ∧ x ≠ b8, fun k hk => hk.1, hK8.less ⟨hK.kb1.2, hnb _ hk7 hK.kb1.2⟩ (fun i hi b e => ⟨(hK.own i hi b e).2.1, hnb _ (hK.lt hi e) (hK.own i hi b e).2.1⟩) (fun b hb' => ⟨hK8.big b hb', by omega⟩), hf.mono (fun k hk => ⟨(hm2 k hk).1, hk⟩), hf.below B (fun k hk => (hm2 k hk).2) hbz, ⟨_, c8, ?_, h1.ents, fun p hp => ?_⟩, ?_⟩
  · rw [List.length_append, ← hn]; rfl
  · cases hp
    refine ⟨?_, fun e => e.2 rfl⟩
    rcases h2 with e | e
    · exact (hm2 _ e).2
    · have h5 := hA.size
      show B ≤ b8
      omega
  · obtain ⟨a, c, rfl, hE⟩ := h4
    exact ⟨a, c, rfl, hE, fun p hp => ⟨(hm2 p.block (by rw [hp]; rfl)).2, fun e => (hm2 p.block (by rw [hp]; rfl)).1 e.1⟩⟩
theorem bfin {w wr w12 w13 wz : World} {kb N B b13 cap13 : Nat} {S S1 S2 S3 : Nat → Prop} {V V' : Nat → Value} {XX X3 : Nat → List Value} {T : List ET} {a1 a2 : Option Addr} {m1 m2 : Nat} {cv : Value}
    (HH : BoW w kb N B S V XX) (hb : Below w.heap.size w wr) (s1 : ∀ k, S1 k → S k) (s2 : ∀ k, S2 k → S1 k) (s3 : ∀ k, S3 k → S2 k) (hl : LsAt wr B S1 (.slice a1 T.length m1) T)
    (ap : ∀ b, (Value.slice a1 T.length m1).ownBlock = some b → (Value.slice a2 T.length m2).ownBlock ≠ some b) (h2 : ∀ b, (Value.slice a2 T.length m2).ownBlock = some b → w.heap.size ≤ b) (f12 : Fr S1 wr w12) (hc : LsAt w12 B S2 cv T) (hca : ∀ b, cv.ownBlock = some b → (Value.slice a2 T.length m2).ownBlock ≠ some b)
    (f13 : Fr (fun x => ¬ S2 x ∧ (Value.slice a2 T.length m2).ownBlock = some x) w12 w13) (hm : LsAt w13 B S3 (.slice (some ⟨b13, 0, none⟩) (T.length + 1) cap13) (List.replicate T.length (mkE N) ++ [mkE N])) (hf : LsAt w13 B S3 (.slice a2 T.length m2) (List.replicate T.length (mkE N)))
    (fz : Fr S3 w13 wz) (hk : BkW wz kb B S3 V' (upd X3 3 (X3 3 ++ [.slice (some ⟨b13, 0, none⟩) (T.length + 1) cap13]))) (x0 : X3 0 = XX 0 ++ [.slice a1 T.length m1]) (x1 : X3 1 = XX 1 ++ [cv]) (x2 : X3 2 = XX 2 ++ [.slice a2 T.length m2]) (x3 : X3 3 = XX 3) (h16 : T.length ≤ 16) :
    BoW wz kb (N + 1) B S3 V' (upd X3 3 (X3 3 ++ [.slice (some ⟨b13, 0, none⟩) (T.length + 1) cap13])) := by
  have keep : ∀ {v : Value}, LsAt w12 B S2 v T → (∀ b, v.ownBlock = some b → (Value.slice a2 T.length m2).ownBlock ≠ some b) → LsAt wz B S3 v T := fun {v} h hv => by
    obtain ⟨a, c, rfl, g2, g3⟩ := h
    have : LsAt w13 B S3 (.slice a T.length c) T := ⟨a, c, rfl, g2.fr f13 (fun p hp e => hv p.block (by rw [hp]; rfl) e.2), fun p hp => ⟨(g3 p hp).1, fun e => (g3 p hp).2 (s3 _ e)⟩⟩
    exact this.fr fz
  refine HH.next (u := fun i => if i = 0 then .slice a1 T.length m1 else if i = 1 then cv else if i = 2 then .slice a2 T.length m2 else .slice (some ⟨b13, 0, none⟩) (T.length + 1) cap13) ?_ hk ?_ (fun k e => s1 k (s2 k (s3 k e))) ⟨T, h16, keep ((hl.fr f12).less s2) ap, keep hc hca, hf.fr fz, ?_⟩
  · exact (((below_fr hb S).trans f12 (fun k e => .inl (s1 k e))).trans f13 (fun k e => .inr (h2 k e.2))).trans fz (fun k e => .inl (s1 k (s2 k (s3 k e))))
  · intro i hi
    match i, hi with
    | 0, _ => exact x0
    | 1, _ => exact x1
    | 2, _ => exact x2
    | 3, _ => rw [upd_self, x3]; rfl
  · rw [List.replicate_succ']; exact hm.fr fz
set_option maxRecDepth 100000 in
set_option maxHeartbeats 8000000 in
theorem bread_any (w : World) (kb N B g c : Nat) (S : Nat → Prop) (V : Nat → Value) (XX : Nat → List Value) (L : List Int) (aw : Option Addr) (cw : Nat)
    (H : BoW w kb N B S V XX) (hN : N ≤ 3000000000000) (hB : Bytes w (some ⟨g, 0, none⟩) L) (hc : L.length ≤ c) (hT : TabAt w) (hW : EntAt w aw (tlU L)) (hWS : ∀ p, aw = some p → ¬ S p.block) (h16 : (tlU L).length ≤ 16) :
    Calls Tryd.prog 19 #[.pointer (some ⟨kb, 0, none⟩), .slice (some ⟨g, 0, none⟩) L.length c, .slice aw (tlU L).length cw, .int .i64 (erU L)] w fun e w' => e = .returned (.bool true) ∧ Below B w w' ∧ ∃ S' V' X', BoW w' kb (N + 1) B S' V' X' := by
  obtain ⟨ra, rcap, hV0⟩ := row_len H.boi.r
  obtain ⟨ca, ccap, hV1⟩ := row_len H.boi.c
  obtain ⟨fa, fcap, hV2⟩ := row_len H.boi.f
  obtain ⟨ma, mcap, hV3⟩ := row_len H.boi.m
  have HH : Hid (BoW w kb N B S V XX) := H
  have HV : Hid (V 0 = .slice ra N rcap ∧ V 1 = .slice ca N ccap ∧ V 2 = .slice fa N fcap ∧ V 3 = .slice ma N mcap) := ⟨hV0, hV1, hV2, hV3⟩
  have HL : Hid ((XX 0).length = N ∧ (XX 1).length = N ∧ (XX 2).length = N ∧ (XX 3).length = N) := ⟨H.len 0 (by omega), H.len 1 (by omega), H.len 2 (by omega), H.len 3 (by omega)⟩
  clear H hV0 hV1 hV2 hV3
  have HC : Hid (∀ wx, Below w.heap.size w wx → wx.cell? ⟨kb, 0, none⟩ = some (.slice ra N rcap) ∧ wx.cell? ⟨kb, 1, none⟩ = some (.slice ca N ccap) ∧ wx.cell? ⟨kb, 2, none⟩ = some (.slice fa N fcap) ∧ wx.cell? ⟨kb, 3, none⟩ = some (.slice ma N mcap)) := fun wx hb => by
    have h := (HH.out.on hb).bk.box
    obtain ⟨e0, e1, e2, e3⟩ := HV.out
    rw [e0, e1, e2, e3] at h
    exact ⟨cell_of_row _ _ 0 _ _ _ h, cell_of_row _ _ 1 _ _ _ h, cell_of_row _ _ 2 _ _ _ h, cell_of_row _ _ 3 _ _ _ h⟩
  have C1 : Hid (∀ wx, Below w.heap.size w wx → Calls Tryd.prog 13 #[.slice (some ⟨g, 0, none⟩) L.length c] wx fun e w' => ∃ v, e = .returned (.tuple #[v, .int .i64 (erU L)]) ∧ RowE wx.heap.size w' v (tlU L) ∧ Below wx.heap.size wx w') := fun wx hb => readR wx g c L (hB.on hb) hc (hT.on hb)
  have HWt : Hid (EntAt w aw (tlU L) ∧ ∀ p, aw = some p → ¬ S p.block) := ⟨hW, hWS⟩
  generalize tlU L = T at *
  generalize erU L = er at *
  clear hB hT hW hWS
  have HS : Hid (∀ (wx : World) (a : Option Addr) (n b m : _), EntAt wx a T → EntAt wx b T → Calls Tryd.prog 15 #[.slice a T.length n, .slice b T.length m] wx fun e w' => e = .returned (.bool true) ∧ Below wx.heap.size wx w') := fun wx a n b m ha hb => by
    refine (sameE_any wx a b T.length n T.length m T T ha hb rfl rfl (by omega)).mono ?_
    rintro e w' ⟨rfl, q, rfl⟩
    exact ⟨by simp, drewN_below wx q⟩
  have K0 : Hid (Below w.heap.size w w) := Below.refl _ _
  have G3 : Hid True := trivial
  go_enter Tryd.func19, Tryd.ntmps19
  go_upto_region 5 with (first
    | (go_at_call 13; have K00 := K0.out; clear K00
       refine (C1.out _ K0.out).mono ?_; rintro e w1 ⟨v1, rfl, hr1, hb1⟩
       obtain ⟨a1, m1, rfl, he1⟩ := hr1.sl
       have K1 : Hid (Below w.heap.size w w1) := hb1
       have R1 : Hid (RowE w.heap.size w1 (.slice a1 T.length m1) T) := hr1
       clear K0 he1 hr1 hb1)
    | (go_at_call 13
       refine (C1.out _ K1.out).mono ?_; rintro e w2 ⟨v2, rfl, hr2, hb2⟩
       obtain ⟨a2, m2, rfl, he2⟩ := hr2.sl
       have K2 : Hid (Below w.heap.size w w2) := K1.out.trans (hb2.mono K1.out.size)
       have R2 : Hid (RowE w1.heap.size w2 (.slice a2 T.length m2) T ∧ RowE w.heap.size w2 (.slice a1 T.length m1) T ∧ ∀ b, (Value.slice a1 T.length m1).ownBlock = some b → b < w1.heap.size) := ⟨hr2, R1.out.on hb2, fun b hb => R1.out.lt hb⟩
       clear R1 he2 hr2 hb2 C1)
    | (go_at_call 15; have G33 := G3.out; clear G33
       obtain ⟨p1, q1, e1, h1⟩ := R2.out.2.1.sl
       cases e1
       refine (HS.out _ _ _ _ _ h1 (HWt.out.1.on K2.out)).mono ?_; rintro e w3 ⟨rfl, hb3⟩
       have K3 : Hid (Below w2.heap.size w2 w3) := hb3
       clear hb3 h1 G3)
    | (go_at_call 15
       obtain ⟨p1, q1, e1, h1⟩ := (R2.out.1.on K3.out).sl
       cases e1
       refine (HS.out _ _ _ _ _ h1 ((HWt.out.1.on K2.out).on K3.out)).mono ?_; rintro e w4 ⟨rfl, hb4⟩
       have K4 : Hid (Below w2.heap.size w2 w4) := K3.out.trans (hb4.mono K3.out.size)
       clear hb4 h1 HS))
  obtain ⟨c0, c1, c2, c3⟩ := HC.out _ (K2.out.trans (K4.out.mono K2.out.size))
  clear c0 c1 c3
  have hNl : (-9223372036854775808 : Int) ≤ -2 - (N : Int) ∧ -2 - (N : Int) ≤ 9223372036854775807 := by omega
  go_upto_region 6 with fail
  obtain ⟨X, hX⟩ : ∃ X, w4.heap.size = X := ⟨_, rfl⟩
  obtain ⟨wm, hwm⟩ : ∃ wm, w4.alloc (.cells #[.int .i64 (-2 - (N : Int)), .string ⟨#[109, 97, 114, 107]⟩, .int .i64 0] 27) = wm := ⟨_, rfl⟩
  have HM : Hid (Below w2.heap.size w2 wm ∧ wm.heap[X]? = some (.cells #[.int .i64 (-2 - (N : Int)), .string ⟨#[109, 97, 114, 107]⟩, .int .i64 0] 27 (0, 0)) ∧ w2.heap.size ≤ X) := by
    have hal : Below w4.heap.size w4 wm := by rw [← hwm]; exact (Below.refl _ _).alloc (Nat.le_refl _) _
    refine ⟨K4.out.trans (hal.mono K4.out.size), ?_, by rw [← hX]; exact K4.out.size⟩
    rw [← hwm, ← hX]; exact heap_alloc_new _ _
  rw [hwm, hX]
  clear hwm hX c2 K3 K4
  have RM : Hid (RowE w1.heap.size wm (.slice a2 T.length m2) T ∧ RowE w.heap.size wm (.slice a1 T.length m1) T ∧ (∀ b, (Value.slice a2 T.length m2).ownBlock = some b → b ≠ X) ∧ (∀ b, (Value.slice a1 T.length m1).ownBlock = some b → b < w1.heap.size)) := ⟨R2.out.1.on HM.out.1, R2.out.2.1.on HM.out.1, (by
    intro b hb e0
    have h1 := HM.out.2.2
    have h3 := R2.out.1.lt hb
    omega), R2.out.2.2⟩
  clear R2
  go_wp2
  go_loopw [14] (fun s14 wr => ∃ k : Nat, k ≤ T.length ∧ s14 = .int .i64 (k : Int) ∧ wr.ownsRow 0 27 3 (.slice a2 T.length m2) T.length (eC (mkd T (mkE N) k)) ∧ Fr (fun x => (Value.slice a2 T.length m2).ownBlock = some x) wm wr) (fun s14 _ => T.length - (intOf s14).toNat)
  case atStart => exact ⟨0, Nat.zero_le _, rfl, RM.out.1.row, Fr.refl _ _⟩
  case round =>
    obtain ⟨k, hk, rfl, hI⟩ := hrel
    have HI : Hid (wr.ownsRow 0 27 3 (.slice a2 T.length m2) T.length (eC (mkd T (mkE N) k)) ∧ Fr (fun x => (Value.slice a2 T.length m2).ownBlock = some x) wm wr) := hI
    clear hI
    by_cases hlt : k < T.length
    · have hlt' : (k : Int) < (T.length : Int) := by omega
      have hk16 : (k : Int) < 16 := by omega
      obtain ⟨g2, rfl, hO⟩ : ∃ g2, a2 = some ⟨g2, 0, none⟩ ∧ OwnE wr g2 m2 (mkd T (mkE N) k) := by
        rcases HI.out.1.2 with ⟨_, e⟩ | ⟨g2, cap2, cur2, e, _⟩
        · omega
        · injection e with e1 e2 e3
          subst e1 e3
          exact ⟨g2, rfl, OwnE.of (mkd_len T _ hk) HI.out.1⟩
      have hml := mkd_len T (mkE N) hk
      obtain ⟨x, hx⟩ : ∃ x, (mkd T (mkE N) k)[k]? = some x := ⟨_, List.getElem?_eq_getElem (by omega)⟩
      obtain ⟨d0, d1, d2⟩ := hO.cell hx
      have f0 := hO.frozen (k * 3)
      have f1 := hO.frozen (k * 3 + 1)
      have f2 := hO.frozen (k * 3 + 2)
      have hXr := HI.out.2.heap HM.out.2.1 (fun e => RM.out.2.2.1 _ e rfl)
      have y0 : wr.cell? ⟨X, 0, none⟩ = some (.int .i64 (-2 - (N : Int))) := cell_of_row _ _ 0 _ _ _ hXr
      have y1 : wr.cell? ⟨X, 1, none⟩ = some (.string ⟨#[109, 97, 114, 107]⟩) := cell_of_row _ _ 1 _ _ _ hXr
      have y2 : wr.cell? ⟨X, 2, none⟩ = some (.int .i64 0) := cell_of_row _ _ 2 _ _ _ hXr
      have HO : Hid (OwnE wr g2 m2 (mkd T (mkE N) k)) := hO
      clear hO hXr
      go_wp2
      refine ⟨⟨k + 1, by omega, rfl, ?_, ?_⟩, by simp [intOf]; omega⟩
      · have h := HO.out.set (k := k) (by omega) (mkE N)
        rw [mkd_set T _ hlt] at h
        have h2 := h.owns
        rw [mkd_len T _ hlt] at h2
        exact h2
      · exact HI.out.2.trans ((Fr.set.trans Fr.set (fun _ h => .inl h)).trans Fr.set (fun _ h => .inl h)) (fun x hx => .inl (by rw [hx]; rfl))
    · have hlt' : ¬ (k : Int) < (T.length : Int) := by omega
      have hkT : k = T.length := by omega
      subst hkT
      obtain ⟨S1, hS1⟩ : ∃ S1 : Nat → Prop, S1 = fun x => S x ∧ x ≠ X ∧ (Value.slice a1 T.length m1).ownBlock ≠ some x ∧ (Value.slice a2 T.length m2).ownBlock ≠ some x := ⟨_, rfl⟩
      have HJ : Hid (BoW wr kb N B S1 V XX ∧ LsAt wr B S1 (.slice a1 T.length m1) T ∧ (wr.ownsRow 0 27 3 (.slice a2 T.length m2) T.length (eC (List.replicate T.length (mkE N))) ∧ ∀ b, (Value.slice a2 T.length m2).ownBlock = some b → ¬ S1 b ∧ B ≤ b) ∧ (wr.heap[X]? = some (.cells #[.int .i64 (-2 - (N : Int)), .string ⟨#[109, 97, 114, 107]⟩, .int .i64 0] 27 (0, 0)) ∧ ¬ S1 X) ∧ Below w.heap.size w wr ∧ (EntAt wr aw T ∧ ∀ p, aw = some p → ¬ S1 p.block) ∧ (∀ k, S1 k → S k) ∧ (∀ b, (Value.slice a2 T.length m2).ownBlock = some b → w.heap.size ≤ b ∧ b < wr.heap.size) ∧ ∀ b, (Value.slice a1 T.length m1).ownBlock = some b → (Value.slice a2 T.length m2).ownBlock ≠ some b) := by
        have hw1 : w.heap.size ≤ w1.heap.size := K1.out.size
        have hw2 : w.heap.size ≤ w2.heap.size := K2.out.size
        have hwm := HM.out.1.size
        have hwr := HI.out.2.size
        have hBw := HH.out.bk.bz
        have hb : Below w.heap.size w wr := (K2.out.trans (HM.out.1.mono K2.out.size)).trans (HI.out.2.below _ (fun b hb => Nat.le_trans K1.out.size (RM.out.1.far b hb)) (Nat.le_trans K2.out.size HM.out.1.size))
        have hr := HI.out.1
        rw [mkd_all] at hr
        have hX2 := HM.out.2.2
        have hXw := heap_lt HM.out.2.1
        have l1 : ∀ b, (Value.slice a1 T.length m1).ownBlock = some b → w.heap.size ≤ b ∧ b < wm.heap.size := fun b hb => ⟨RM.out.2.1.far b hb, RM.out.2.1.lt hb⟩
        have l2 : ∀ b, (Value.slice a2 T.length m2).ownBlock = some b → w.heap.size ≤ b ∧ b < wm.heap.size := fun b hb => ⟨Nat.le_trans hw1 (RM.out.1.far b hb), RM.out.1.lt hb⟩
        have hfar : ∀ x, x < w.heap.size → S x → S1 x := by
          intro x hx hs
          rw [hS1]
          refine ⟨hs, by omega, fun e => ?_, fun e => ?_⟩
          · have := (l1 x e).1; omega
          · have := (l2 x e).1; omega
        have hsub : ∀ x, S1 x → S x := by intro x hx; rw [hS1] at hx; exact hx.1
        have ha1 : EntAt wr a1 T ∧ ∀ p, a1 = some p → B ≤ p.block ∧ ¬ S1 p.block := by
          obtain ⟨p1, q1, e1, h1⟩ := RM.out.2.1.sl
          cases e1
          refine ⟨h1.fr HI.out.2 (fun p hp e => ?_), fun p hp => ⟨?_, fun e => ?_⟩⟩
          · have h2 := RM.out.2.2.2 p.block (by rw [hp]; rfl)
            have h3 := RM.out.1.far p.block e
            omega
          · exact Nat.le_trans hBw (l1 p.block (by rw [hp]; rfl)).1
          · rw [hS1] at e; exact e.2.2.1 (by rw [hp]; rfl)
        refine ⟨(HH.out.on hb).less hsub (hfar _ (heap_lt HH.out.bk.box) HH.out.bk.kb1.2) (fun i hi b e => hfar b (HH.out.bk.lt hi e) (HH.out.bk.own i hi b e).2.1) (fun b hb' => ?_), ⟨a1, m1, rfl, ha1.1, ha1.2⟩, ⟨hr, fun b e => ⟨fun h => by rw [hS1] at h; exact h.2.2.2 e, Nat.le_trans hBw (l2 b e).1⟩⟩, ⟨HI.out.2.heap HM.out.2.1 (fun e => RM.out.2.2.1 _ e rfl), fun h => by rw [hS1] at h; exact h.2.1 rfl⟩, hb, ⟨HWt.out.1.on hb, fun p hp e => HWt.out.2 p hp (hsub _ e)⟩, hsub, fun b e => ⟨(l2 b e).1, Nat.lt_of_lt_of_le (l2 b e).2 hwr⟩, fun b e e2 => ?_⟩
        rotate_left
        · have h7 := RM.out.2.2.2 b e
          have h8 := RM.out.1.far b e2
          omega
        rw [hS1]
        refine ⟨HH.out.bk.big b (by omega), by omega, fun e => ?_, fun e => ?_⟩
        · have := (l1 b e).2; omega
        · have := (l2 b e).2; omega
      clear HI HM RM HWt hS1
      obtain ⟨c0, c1, c2, c3⟩ := HC.out _ HJ.out.2.2.2.2.1
      have hrl : (XX 0).length = N := HL.out.1
      have HR0 : Hid (wr.ownsRow 0 36 1 (.slice ra N rcap) (XX 0).length (XX 0)) := by
        have h := HJ.out.1.bk.row 0 (by omega)
        rw [HV.out.1] at h
        exact h
      go_upto_region 11 with (at_builtin; refine wp_lst (wx := wr) rfl (.tmp 66) (.tmp 68) rfl (.slice ra N rcap) (XX 0) rfl wr.heap.size rfl rfl (.slice a1 T.length m1) rfl HR0.out (by omega) ?_
                              intro b6 cap6 w6 h1 h2 h3
                              rw [hrl] at h1
                              rw [hrl]
                              have hbx := HJ.out.1.bk.mid (i := 0) (by omega) (w1 := w6) (by rw [HV.out.1]; exact h2)
                              have d0 : w6.cell? ⟨kb, 0, none⟩ = some (V 0) := cell_of_row _ _ 0 _ _ _ hbx
                              have f0 : w6.frozen? ⟨kb, 0, none⟩ = false := frozen_of_row _ _ 0 _ _ hbx
                              have H6 : Hid _ := HJ.out.1.bk.step2 (i := 0) (by omega) hrl HV.out.1 h1 h2 h3
                              clear h1 h2 h3 hbx HR0)
      obtain ⟨w7, V1, X1, H7⟩ : ∃ w7 V1 X1, Hid ((w6.setCell ⟨kb, 0, none⟩ (.slice (some ⟨b6, 0, none⟩) (N + 1) cap6) = w7) ∧ BkW w7 kb B S1 V1 X1 ∧ Fr S1 wr w7 ∧ Below B wr w7 ∧ (V1 1 = .slice ca N ccap ∧ V1 2 = .slice fa N fcap ∧ V1 3 = .slice ma N mcap) ∧ X1 0 = XX 0 ++ [.slice a1 T.length m1] ∧ X1 1 = XX 1 ∧ X1 2 = XX 2 ∧ X1 3 = XX 3) := ⟨_, _, _, rfl, H6.out.1, H6.out.2.1, H6.out.2.2, HV.out.2, rfl, rfl, rfl, rfl⟩
      rw [H7.out.1]
      clear H6 d0 f0 c0 c1 c2 c3
      go_cut [72] (fun _ wx => ∃ (S2 : Nat → Prop) (V2 : Nat → Value) (X2 : Nat → List Value) (cv : Value), BkW wx kb B S2 V2 X2 ∧ Fr S1 w7 wx ∧ Below B w7 wx ∧ (∀ k, S2 k → S1 k) ∧ (LsAt wx B S2 cv T ∧ ∀ b, cv.ownBlock = some b → w7.heap.size ≤ b) ∧ (V2 2 = .slice fa N fcap ∧ V2 3 = .slice ma N mcap) ∧ X2 0 = XX 0 ++ [.slice a1 T.length m1] ∧ X2 1 = XX 1 ++ [cv] ∧ X2 2 = XX 2 ∧ X2 3 = XX 3)
      case first => as_aux_lemma =>
        have HE7 : Hid (EntAt w7 aw T) := HJ.out.2.2.2.2.2.1.1.fr H7.out.2.2.1 HJ.out.2.2.2.2.2.1.2
        have HB7 : Hid (w7.heap[kb]? = some (.cells #[V1 0, .slice ca N ccap, .slice fa N fcap, .slice ma N mcap] 58 (0, 0))) := by
          have h := H7.out.2.1.box
          rw [H7.out.2.2.2.2.1.1, H7.out.2.2.2.2.1.2.1, H7.out.2.2.2.2.1.2.2] at h
          exact h
        have c1 : w7.cell? ⟨kb, 1, none⟩ = some (.slice ca N ccap) := cell_of_row _ _ 1 _ _ _ HB7.out
        have hl1 : (X1 1).length = N := by rw [H7.out.2.2.2.2.2.2.1]; exact HL.out.2.1
        have HR1 : Hid (w7.ownsRow 0 36 1 (.slice ca N ccap) (X1 1).length (X1 1)) := by
          have h := H7.out.2.1.row 1 (by omega)
          rw [H7.out.2.2.2.2.1.1] at h
          exact h
        have HA7 : Hid (∀ o, Below w7.heap.size w7 (w7.drew.alloc o)) := fun o => (Below.refl w7.heap.size w7).drew.alloc (Nat.le_refl _) o
        have HA7b : Hid (∀ o, Below w7.heap.size w7 (w7.alloc o).drew) := fun o => ((Below.refl w7.heap.size w7).alloc (Nat.le_refl _) o).drew
        have HA7c : Hid (∀ o, Below w7.heap.size w7 (w7.drew.alloc o).drew) := fun o => (HA7.out o).drew
        have HA7d : Hid (∀ o, Below w7.heap.size w7 (w7.alloc o)) := fun o => ((Below.refl w7.heap.size w7).alloc (Nat.le_refl _) o)
        have c1a : (w7.alloc (.cells #[] 27)).cell? ⟨kb, 1, none⟩ = some (.slice ca N ccap) := (fr_alloc (fun _ => False) w7 _).cell c1 (fun e => e)
        go_region_law
          (first
            | (refine step_cpyE (by rfl) (.tmp 77) (.tmp 78) (by rfl) (by rfl) w7.heap.size (by rfl) (heap_alloc_new w7 _) aw cw T (by rfl) (HE7.out.on (by first | exact HA7.out _ | exact HA7b.out _ | exact HA7c.out _ | exact HA7d.out _)) (by omega) ?_
               intro g8 cap8 w8 h1 h2 h3 h4
               obtain ⟨S2, H8⟩ : ∃ S2 : Nat → Prop, Hid ((∀ k, S2 k → S1 k) ∧ BkW w8 kb B S2 V1 X1 ∧ Below w7.heap.size w7 w8 ∧ LsAt w8 B S2 (.slice (some ⟨g8, 0, none⟩) T.length cap8) T ∧ w7.heap.size ≤ g8) := (by first | exact sub8 cap8 H7.out.2.1 (HA7.out _) h1 h2 h3 h4 | exact sub8 cap8 H7.out.2.1 (HA7b.out _) h1 h2 h3 h4 | exact sub8 cap8 H7.out.2.1 (HA7c.out _) h1 h2 h3 h4 | exact sub8 cap8 H7.out.2.1 (HA7d.out _) h1 h2 h3 h4)
               have hB8 : w8.heap[kb]? = _ := (H8.out.2.2.1.block kb (heap_lt HB7.out)).trans HB7.out
               have c8 : w8.cell? ⟨kb, 1, none⟩ = some (.slice ca N ccap) := cell_of_row _ _ 1 _ _ _ hB8
               have c8a : (w8.alloc (.cells #[.slice (some ⟨g8, 0, none⟩) T.length cap8] 36)).cell? ⟨kb, 1, none⟩ = some (.slice ca N ccap) := (fr_alloc (fun _ => False) w8 _).cell c8 (fun e => e)
               clear h1 h2 h3 h4 hB8 c1 c1a)
            | (refine step_lst (by rfl) (.tmp 76) (.tmp 80) (by rfl) (.slice ca N ccap) (X1 1) (by rfl) w8.heap.size (by rfl) (.slice (some ⟨g8, 0, none⟩) T.length cap8) (by rfl) (heap_alloc_new w8 _) (owns_fr HR1.out (below_fr (by first | exact H8.out.2.2.1.alloc H8.out.2.2.1.size _ | exact (H8.out.2.2.1.alloc H8.out.2.2.1.size _).drew | exact H8.out.2.2.1.drew.alloc H8.out.2.2.1.size _ | exact (H8.out.2.2.1.drew.alloc H8.out.2.2.1.size _).drew) (fun _ => False)) (fun _ _ e => e)) (by omega) ?_
               intro b9 cap9 w9 h1 h2 h3
               rw [hl1] at h1
               rw [hl1]
               have H9 : Hid (BkW (w9.setCell ⟨kb, 1, none⟩ (.slice (some ⟨b9, 0, none⟩) (N + 1) cap9)) kb B S2 (upd V1 1 (.slice (some ⟨b9, 0, none⟩) (N + 1) cap9)) (upd X1 1 (X1 1 ++ [.slice (some ⟨g8, 0, none⟩) T.length cap8])) ∧ Fr S2 w8 (w9.setCell ⟨kb, 1, none⟩ (.slice (some ⟨b9, 0, none⟩) (N + 1) cap9)) ∧ Below B w8 (w9.setCell ⟨kb, 1, none⟩ (.slice (some ⟨b9, 0, none⟩) (N + 1) cap9)) ∧ w9.heap[kb]? = some (.cells #[V1 0, V1 1, V1 2, V1 3] 58 (0, 0))) := (by first
                 | exact sub9 H8.out.2.1 ((Below.refl _ _).alloc (Nat.le_refl _) _) 1 (by omega) hl1 H7.out.2.2.2.2.1.1 h1 h2 h3
                 | exact sub9 H8.out.2.1 ((Below.refl _ _).alloc (Nat.le_refl _) _).drew 1 (by omega) hl1 H7.out.2.2.2.2.1.1 h1 h2 h3
                 | exact sub9 H8.out.2.1 ((Below.refl _ _).drew.alloc (Nat.le_refl _) _) 1 (by omega) hl1 H7.out.2.2.2.2.1.1 h1 h2 h3
                 | exact sub9 H8.out.2.1 ((Below.refl _ _).drew.alloc (Nat.le_refl _) _).drew 1 (by omega) hl1 H7.out.2.2.2.2.1.1 h1 h2 h3)
               have d1 : w9.cell? ⟨kb, 1, none⟩ = some (V1 1) := cell_of_row _ _ 1 _ _ _ H9.out.2.2.2
               have f1 : w9.frozen? ⟨kb, 1, none⟩ = false := frozen_of_row _ _ 1 _ _ H9.out.2.2.2
               clear h1 h2 h3 c8 c8a))
        all_goals
          go_wp2
          go_meet
          case rel => exact ⟨S2, _, _, _, H9.out.1, (below_fr H8.out.2.2.1 S1).trans H9.out.2.1 (fun k hk => .inl (H8.out.1 k hk)), (H8.out.2.2.1.mono H7.out.2.1.bz).trans H9.out.2.2.1, H8.out.1, ⟨H8.out.2.2.2.1.fr H9.out.2.1, fun b e => by cases e; exact H8.out.2.2.2.2⟩, H7.out.2.2.2.2.1.2, H7.out.2.2.2.2.2.1, by rw [upd_self, H7.out.2.2.2.2.2.2.1], H7.out.2.2.2.2.2.2.2.1, H7.out.2.2.2.2.2.2.2.2⟩
      case rest =>
      obtain ⟨S2, V2, X2, cv, hcut⟩ := hcut
      have H10 : Hid (BkW wc kb B S2 V2 X2 ∧ Fr S1 w7 wc ∧ Below B w7 wc ∧ (∀ k, S2 k → S1 k) ∧ (LsAt wc B S2 cv T ∧ ∀ b, cv.ownBlock = some b → w7.heap.size ≤ b) ∧ (V2 2 = .slice fa N fcap ∧ V2 3 = .slice ma N mcap) ∧ X2 0 = XX 0 ++ [.slice a1 T.length m1] ∧ X2 1 = XX 1 ++ [cv] ∧ X2 2 = XX 2 ∧ X2 3 = XX 3) := hcut
      clear hcut
      have HB10 : Hid (wc.heap[kb]? = some (.cells #[V2 0, V2 1, .slice fa N fcap, .slice ma N mcap] 58 (0, 0))) := by
        have h := H10.out.1.box
        rw [H10.out.2.2.2.2.2.1.1, H10.out.2.2.2.2.2.1.2] at h
        exact h
      have c2 : wc.cell? ⟨kb, 2, none⟩ = some (.slice fa N fcap) := cell_of_row _ _ 2 _ _ _ HB10.out
      have hl2 : (X2 2).length = N := by rw [H10.out.2.2.2.2.2.2.2.2.1]; exact HL.out.2.2.1
      have HR2 : Hid (wc.ownsRow 0 36 1 (.slice fa N fcap) (X2 2).length (X2 2)) := by
        have h := H10.out.1.row 2 (by omega)
        rw [H10.out.2.2.2.2.2.1.1] at h
        exact h
      go_upto_region 13 with (at_builtin; refine wp_lst (wx := wc) rfl (.tmp 88) (.tmp 90) rfl (.slice fa N fcap) (X2 2) rfl wc.heap.size rfl rfl (.slice a2 T.length m2) rfl HR2.out (by omega) ?_
                              intro b11 cap11 w11 h1 h2 h3
                              rw [hl2] at h1
                              rw [hl2]
                              have hbx := H10.out.1.mid (i := 2) (by omega) (w1 := w11) (by rw [H10.out.2.2.2.2.2.1.1]; exact h2)
                              have d0 : w11.cell? ⟨kb, 2, none⟩ = some (V2 2) := cell_of_row _ _ 2 _ _ _ hbx
                              have f0 : w11.frozen? ⟨kb, 2, none⟩ = false := frozen_of_row _ _ 2 _ _ hbx
                              have H11 : Hid _ := H10.out.1.step2 (i := 2) (by omega) hl2 H10.out.2.2.2.2.2.1.1 h1 h2 h3
                              clear h1 h2 h3 hbx HR2)
      obtain ⟨w12, V3, X3, H12⟩ : ∃ w12 V3 X3, Hid ((w11.setCell ⟨kb, 2, none⟩ (.slice (some ⟨b11, 0, none⟩) (N + 1) cap11) = w12) ∧ BkW w12 kb B S2 V3 X3 ∧ Fr S1 wr w12 ∧ Below B wr w12 ∧ (LsAt w12 B S2 cv T ∧ ∀ b, cv.ownBlock = some b → wr.heap.size ≤ b) ∧ V3 3 = .slice ma N mcap ∧ X3 0 = XX 0 ++ [.slice a1 T.length m1] ∧ X3 1 = XX 1 ++ [cv] ∧ X3 2 = XX 2 ++ [.slice a2 T.length m2] ∧ X3 3 = XX 3) := ⟨_, _, _, rfl, H11.out.1, (H7.out.2.2.1.trans H10.out.2.1 (fun k hk => .inl hk)).trans (H11.out.2.1.mono H10.out.2.2.2.1) (fun k hk => .inl hk), (H7.out.2.2.2.1.trans H10.out.2.2.1).trans H11.out.2.2, ⟨H10.out.2.2.2.2.1.1.fr H11.out.2.1, fun b e => Nat.le_trans H7.out.2.2.1.size (H10.out.2.2.2.2.1.2 b e)⟩, H10.out.2.2.2.2.2.1.2, (by exact H10.out.2.2.2.2.2.2.1), (by exact H10.out.2.2.2.2.2.2.2.1), (by rw [upd_self, H10.out.2.2.2.2.2.2.2.2.1]), (by exact H10.out.2.2.2.2.2.2.2.2.2)⟩
      rw [H12.out.1]
      have HSS : Hid (∀ k, S2 k → S1 k) := H10.out.2.2.2.1
      clear H11 H10 HB10 H7 d0 f0 c2 hl2
      have HM12 : Hid (w12.heap[X]? = some (.cells #[.int .i64 (-2 - (N : Int)), .string ⟨#[109, 97, 114, 107]⟩, .int .i64 0] 27 (0, 0))) := H12.out.2.2.1.heap HJ.out.2.2.2.1.1 HJ.out.2.2.2.1.2
      have HR12 : Hid (w12.ownsRow 0 27 3 (.slice a2 T.length m2) (List.replicate T.length (mkE N)).length (eC (List.replicate T.length (mkE N)))) := by
        rw [List.length_replicate]
        exact owns_fr HJ.out.2.2.1.1 H12.out.2.2.1 (fun k hk => (HJ.out.2.2.1.2 k hk).1)
      have HB12 : Hid (w12.heap[kb]? = some (.cells #[V3 0, V3 1, V3 2, .slice ma N mcap] 58 (0, 0))) := by
        have h := H12.out.2.1.box
        rw [H12.out.2.2.2.2.2.1] at h
        exact h
      have c3 : w12.cell? ⟨kb, 3, none⟩ = some (.slice ma N mcap) := cell_of_row _ _ 3 _ _ _ HB12.out
      have y0 : w12.cell? ⟨X, 0, none⟩ = some (.int .i64 (-2 - (N : Int))) := cell_of_row _ _ 0 _ _ _ HM12.out
      have y1 : w12.cell? ⟨X, 1, none⟩ = some (.string ⟨#[109, 97, 114, 107]⟩) := cell_of_row _ _ 1 _ _ _ HM12.out
      have y2 : w12.cell? ⟨X, 2, none⟩ = some (.int .i64 0) := cell_of_row _ _ 2 _ _ _ HM12.out
      have hl3 : (X3 3).length = N := by rw [H12.out.2.2.2.2.2.2.2.2.2]; exact HL.out.2.2.2
      have HR3 : Hid (w12.ownsRow 0 36 1 (.slice ma N mcap) (X3 3).length (X3 3)) := by
        have h := H12.out.2.1.row 3 (by omega)
        rw [H12.out.2.2.2.2.2.1] at h
        exact h
      have HA7 : Hid (∀ o, Below w12.heap.size w12 (w12.drew.alloc o)) := fun o => (Below.refl w12.heap.size w12).drew.alloc (Nat.le_refl _) o
      have HA7b : Hid (∀ o, Below w12.heap.size w12 (w12.alloc o).drew) := fun o => ((Below.refl w12.heap.size w12).alloc (Nat.le_refl _) o).drew
      have HA7c : Hid (∀ o, Below w12.heap.size w12 (w12.drew.alloc o).drew) := fun o => (HA7.out o).drew
      have HA7d : Hid (∀ o, Below w12.heap.size w12 (w12.alloc o)) := fun o => ((Below.refl w12.heap.size w12).alloc (Nat.le_refl _) o)
      have c3a : (w12.alloc (.cells #[.int .i64 (-2 - (N : Int)), .string ⟨#[109, 97, 114, 107]⟩, .int .i64 0] 27)).cell? ⟨kb, 3, none⟩ = some (.slice ma N mcap) := (fr_alloc (fun _ => False) w12 _).cell c3 (fun e => e)
      go_region_law
        (first
          | (refine step_entE (by rfl) (.tmp 99) (.tmp 101) (by rfl) (.slice a2 T.length m2) (List.replicate T.length (mkE N)) (by rfl) w12.heap.size (by rfl) (mkE N) (heap_alloc_new w12 _) (owns_fr HR12.out (below_fr (by first | exact HA7.out _ | exact HA7b.out _ | exact HA7c.out _ | exact HA7d.out _) (fun _ => False)) (fun _ _ e => e)) (by rw [List.length_replicate]; omega) ?_
             intro b13 cap13 w13 h1 h3 h2 h4
             rw [List.length_replicate]
             obtain ⟨S3, H13⟩ : ∃ S3 : Nat → Prop, Hid ((∀ k, S3 k → S2 k) ∧ BkW w13 kb B S3 V3 X3 ∧ Fr (fun x => ¬ S2 x ∧ (Value.slice a2 T.length m2).ownBlock = some x) w12 w13 ∧ Below B w12 w13 ∧ LsAt w13 B S3 (.slice (some ⟨b13, 0, none⟩) (T.length + 1) cap13) (List.replicate T.length (mkE N) ++ [mkE N]) ∧ LsAt w13 B S3 (.slice a2 T.length m2) (List.replicate T.length (mkE N))) := (by
               have hm2 : ∀ b, (Value.slice a2 T.length m2).ownBlock = some b → ¬ S2 b ∧ B ≤ b := fun b hb => ⟨fun e => (HJ.out.2.2.1.2 b hb).1 (HSS.out b e), (HJ.out.2.2.1.2 b hb).2⟩
               first
               | exact sub13 H12.out.2.1 (HA7.out _) hm2 (by rw [List.length_replicate]) h1 h3 h2 h4
               | exact sub13 H12.out.2.1 (HA7b.out _) hm2 (by rw [List.length_replicate]) h1 h3 h2 h4
               | exact sub13 H12.out.2.1 (HA7c.out _) hm2 (by rw [List.length_replicate]) h1 h3 h2 h4
               | exact sub13 H12.out.2.1 (HA7d.out _) hm2 (by rw [List.length_replicate]) h1 h3 h2 h4)
             have HB13 : Hid (w13.heap[kb]? = some (.cells #[V3 0, V3 1, V3 2, .slice ma N mcap] 58 (0, 0)) ∧ w13.ownsRow 0 36 1 (.slice ma N mcap) (X3 3).length (X3 3)) := (by
               have h := H13.out.2.1.box
               rw [H12.out.2.2.2.2.2.1] at h
               have h5 := H13.out.2.1.row 3 (by omega)
               rw [H12.out.2.2.2.2.2.1] at h5
               exact ⟨h, h5⟩)
             have c8 : w13.cell? ⟨kb, 3, none⟩ = some (.slice ma N mcap) := cell_of_row _ _ 3 _ _ _ HB13.out.1
             have c8a : (w13.alloc (.cells #[.slice (some ⟨b13, 0, none⟩) (T.length + 1) cap13] 36)).cell? ⟨kb, 3, none⟩ = some (.slice ma N mcap) := (fr_alloc (fun _ => False) w13 _).cell c8 (fun e => e)
             clear h1 h2 h3 h4 c3 c3a y0 y1 y2)
          | (refine step_lst (by rfl) (.tmp 98) (.tmp 103) (by rfl) (.slice ma N mcap) (X3 3) (by rfl) w13.heap.size (by rfl) (.slice (some ⟨b13, 0, none⟩) (T.length + 1) cap13) (by rfl) (heap_alloc_new w13 _) (owns_fr HB13.out.2 (below_fr (by first | exact (Below.refl _ _).alloc (Nat.le_refl _) _ | exact ((Below.refl _ _).alloc (Nat.le_refl _) _).drew | exact (Below.refl _ _).drew.alloc (Nat.le_refl _) _ | exact ((Below.refl _ _).drew.alloc (Nat.le_refl _) _).drew) (fun _ => False)) (fun _ _ e => e)) (by omega) ?_
             intro b9 cap9 w9 h1 h2 h3
             rw [hl3] at h1
             rw [hl3]
             have H9 : Hid (BkW (w9.setCell ⟨kb, 3, none⟩ (.slice (some ⟨b9, 0, none⟩) (N + 1) cap9)) kb B S3 (upd V3 3 (.slice (some ⟨b9, 0, none⟩) (N + 1) cap9)) (upd X3 3 (X3 3 ++ [.slice (some ⟨b13, 0, none⟩) (T.length + 1) cap13])) ∧ Fr S3 w13 (w9.setCell ⟨kb, 3, none⟩ (.slice (some ⟨b9, 0, none⟩) (N + 1) cap9)) ∧ Below B w13 (w9.setCell ⟨kb, 3, none⟩ (.slice (some ⟨b9, 0, none⟩) (N + 1) cap9)) ∧ w9.heap[kb]? = some (.cells #[V3 0, V3 1, V3 2, V3 3] 58 (0, 0))) := (by first
               | exact sub9 H13.out.2.1 ((Below.refl _ _).alloc (Nat.le_refl _) _) 3 (by omega) hl3 H12.out.2.2.2.2.2.1 h1 h2 h3
               | exact sub9 H13.out.2.1 ((Below.refl _ _).alloc (Nat.le_refl _) _).drew 3 (by omega) hl3 H12.out.2.2.2.2.2.1 h1 h2 h3
               | exact sub9 H13.out.2.1 ((Below.refl _ _).drew.alloc (Nat.le_refl _) _) 3 (by omega) hl3 H12.out.2.2.2.2.2.1 h1 h2 h3
               | exact sub9 H13.out.2.1 ((Below.refl _ _).drew.alloc (Nat.le_refl _) _).drew 3 (by omega) hl3 H12.out.2.2.2.2.2.1 h1 h2 h3)
             have d1 : w9.cell? ⟨kb, 3, none⟩ = some (V3 3) := cell_of_row _ _ 3 _ _ _ H9.out.2.2.2
             have f1 : w9.frozen? ⟨kb, 3, none⟩ = false := frozen_of_row _ _ 3 _ _ H9.out.2.2.2
             clear h1 h2 h3 c8 c8a))
      all_goals
        clear HA7 HA7b HA7c HA7d HB13 HR3 HB12 HR12 HM12 d1 f1
        go_wp2
        go_ret
        exact ⟨rfl, (HJ.out.2.2.2.2.1.mono HH.out.bk.bz).trans ((H12.out.2.2.2.1.trans H13.out.2.2.2.1).trans H9.out.2.2.1), S3, _, _, bfin HH.out HJ.out.2.2.2.2.1 HJ.out.2.2.2.2.2.2.1 HSS.out H13.out.1 HJ.out.2.1 HJ.out.2.2.2.2.2.2.2.2 (fun b e => (HJ.out.2.2.2.2.2.2.2.1 b e).1) H12.out.2.2.1 H12.out.2.2.2.2.1.1 (fun b e e2 => absurd (HJ.out.2.2.2.2.2.2.2.1 b e2).2 (Nat.not_lt.2 (H12.out.2.2.2.2.1.2 b e))) H13.out.2.2.1 H13.out.2.2.2.2.1 H13.out.2.2.2.2.2 H9.out.2.1 H9.out.1 H12.out.2.2.2.2.2.2.1 H12.out.2.2.2.2.2.2.2.1 H12.out.2.2.2.2.2.2.2.2.1 H12.out.2.2.2.2.2.2.2.2.2 h16⟩
end Go.Proofs.YtaaeahpmnfifiaaDoor

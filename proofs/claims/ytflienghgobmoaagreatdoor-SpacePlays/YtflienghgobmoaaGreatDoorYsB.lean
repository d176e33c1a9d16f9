import Derived.Test.YtflienghgobmoaaGreatDoorKYrB
namespace Go.Proofs.YtflienghgobmoaaGreatDoor
open Go.RowKit Go.Maps Rec
variable {w0 w w1 wx w2 w' : World} {P j j' : Nat} {D D' : Dk} {R R' : RDk} {T T' : Tx} {U U' : RTx} {K K' : Kb}
def PlZ (w0 : World) (P j n : Nat) (e : Ending) (w' : World) : Prop := e = .returned (.bool true) ∧ ∃ D R T U K, XS w0 w' P D R T U K (j + 2) ∧ K.kb = n ∧ D.nb = n
theorem TkO.len {n : Nat} {E : Nat → Int} {B : Nat → List Int} {rv : Nat} {er : Int} {l : List Dn} (h : TkO U n E B rv er l) : l.length ≤ U.row.length + 2 := by
  rcases h with ⟨i, _, _, ⟨_, _, _, rfl⟩ | ⟨_, _, _, _, rfl⟩ | ⟨_, _, _, _, rfl⟩⟩ | ⟨_, _, _, _, rfl⟩ | ⟨k, _, _, _, _, _, _, rfl⟩
  · omega
  · omega
  · unfold rowT1; simp
  · omega
  · omega
/-- the cells that a step's calls read -/
def ZC (wq : World) (P Q : Nat) (T : Tx) (U : RTx) (nn : Nat) (g2 g3 g4 N : Int) : Prop := wq.cell? ⟨P, 2, none⟩ = some (.pointer (some ⟨T.t, 0, none⟩)) ∧ wq.cell? ⟨P, 3, none⟩ = some (.pointer (some ⟨U.u, 0, none⟩)) ∧ wq.cell? ⟨P, 4, none⟩ = some (.int .i64 (nn : Int)) ∧ wq.cell? ⟨P, 5, none⟩ = some (.int .i64 98) ∧ wq.cell? ⟨P, 6, none⟩ = some (.int .i64 g2) ∧ wq.cell? ⟨P, 7, none⟩ = some (.int .i64 g3) ∧ wq.cell? ⟨P, 8, none⟩ = some (.int .i64 g4) ∧ wq.cell? ⟨Q, 1, none⟩ = some (.int .i64 N)
theorem zc_of {wq : World} {Q nn : Nat} {N x kd : Int} (hp : wq.heap[P]? = some (.cells (sdC D R T U K) 42 (0, 0))) (hq : wq.heap[Q]? = some (.cells #[.int .i64 kd, .int .i64 N, .int .u8 x] 46 (0, 0))) (hk : K.kb = nn) : ZC wq P Q T U nn (gI nn) (gD nn) (gC nn) N := by
  subst hk
  have c := fun i => cell_of_row _ _ i _ _ _ hp
  exact ⟨c 2, c 3, c 4, c 5, c 6, c 7, c 8, cell_of_row _ _ 1 _ _ _ hq⟩
/-- the document's side behind the program's half step -/
theorem XS.rsmid {row' : List Dn} (h : XS w0 w P D R T U K j) (hn : D.nb = K.n) (hT : HalfT w w1 T T' U D row') (hx : Below w1.heap.size w1 wx) : RS wx D.abs R (200 * j) U K.n := by
  obtain ⟨h1, h2, _⟩ := h.midw hT hx
  exact ⟨h2, h1, h.ur, hn, h.bk.lo, h.bk.hi, fun k e e2 => h.sep.ne (i := 3) (j := 1) (by omega) e e2⟩
set_option maxRecDepth 100000 in
set_option maxHeartbeats 8000000 in
theorem zplay1 (h : XS w0 w P D R T U K j) (hn : D.nb = K.n) (hl : U.row.length + 2 ≤ 1000000) (N x : Int) :
    Calls Tryz.prog 11 #[.pointer (some ⟨P, 0, none⟩), .agg #[.int .i64 1, .int .i64 N, .int .u8 x]] w (PlZ w0 P j K.kb) := by
  have HX : Hid (XS w0 w P D R T U K j ∧ D.nb = K.n ∧ U.row.length + 2 ≤ 1000000) := ⟨h, hn, hl⟩
  obtain ⟨Q, hQ⟩ : ∃ Q, w.heap.size = Q := ⟨_, rfl⟩
  obtain ⟨wb, hwb⟩ : ∃ wb, w.alloc (.cells #[.int .i64 1, .int .i64 N, .int .u8 x] 46) = wb := ⟨_, rfl⟩
  have HB : Hid (Below w.heap.size w wb ∧ wb.heap[Q]? = some (.cells #[.int .i64 1, .int .i64 N, .int .u8 x] 46 (0, 0)) ∧ w.heap.size = Q) := by rw [← hwb]; exact ⟨(Below.refl _ _).alloc (Nat.le_refl _) _, by rw [← hQ]; exact heap_alloc_new _ _, hQ⟩
  have HXb : Hid (XS w0 wb P D R T U K j) := h.on HB.out.1
  have HXd : Hid (XS w0 wb.drew P D R T U K j ∧ wb.drew.heap[Q]? = some (.cells #[.int .i64 1, .int .i64 N, .int .u8 x] 46 (0, 0))) := ⟨HXb.out.on (Below.refl _ _).drew, ((Below.refl wb.heap.size wb).drew.block Q (heap_lt HB.out.2.1)).trans HB.out.2.1⟩
  obtain ⟨nn, hnn⟩ : ∃ nn, K.kb = nn := ⟨_, rfl⟩
  have HNn : Hid (K.kb = nn) := hnn
  have hS0 : ZC wb.drew P Q T U nn (gI nn) (gD nn) (gC nn) N := zc_of HXd.out.1.px HXd.out.2 hnn
  have HPc : Hid (Calls Tryz.prog 24 #[.pointer (some ⟨T.t, 0, none⟩), .agg #[.int .i64 (nn : Int), .int .i64 98, .int .i64 (gI (nn : Int)), .int .i64 (gD (nn : Int)), .int .i64 (gC (nn : Int))]] wb.drew fun e w1 => ∃ (rv : Nat) (er : Int) (row' : List Dn) (T' : Tx), e = .returned (.tuple #[.int .i64 (rv : Int), .int .i64 er]) ∧ HalfT wb.drew w1 T T' U D row' ∧ TkO U K.n (fun i => rxE D.abs U (i : Int)) (fun i => rxB D.abs U (i : Int)) rv er row') := by
    have := ptake HXd.out.1 hn hl
    unfold geoV at this
    rw [show K.n = nn from hnn] at this ⊢
    exact this
  have b0 : wb.cell? ⟨Q, 0, none⟩ = some (.int .i64 1) := cell_of_row _ _ 0 _ _ _ HB.out.2.1
  have b1 : wb.cell? ⟨Q, 1, none⟩ = some (.int .i64 N) := cell_of_row _ _ 1 _ _ _ HB.out.2.1
  rw [hnn]
  clear h hn hl hnn
  obtain ⟨g2, hg2⟩ : ∃ g2, gI (nn : Int) = g2 := ⟨_, rfl⟩
  obtain ⟨g3, hg3⟩ : ∃ g3, gD (nn : Int) = g3 := ⟨_, rfl⟩
  obtain ⟨g4, hg4⟩ : ∃ g4, gC (nn : Int) = g4 := ⟨_, rfl⟩
  have HG : Hid (gI (nn : Int) = g2 ∧ gD (nn : Int) = g3 ∧ gC (nn : Int) = g4) := ⟨hg2, hg3, hg4⟩
  rw [hg2, hg3, hg4] at hS0 HPc
  have HZc : Hid (∀ (wq : World) (T9 : Tx) (U9 : RTx) (D9 : Dk) (R9 : RDk), T9.t = T.t → U9.u = U.u → wq.heap[P]? = some (.cells (sdC D9 R9 T9 U9 K) 42 (0, 0)) → wq.heap[Q]? = some (.cells #[.int .i64 1, .int .i64 N, .int .u8 x] 46 (0, 0)) → ZC wq P Q T U nn g2 g3 g4 N) := fun wq T9 U9 D9 R9 e1 e2 hp hq => by
    have := zc_of hp hq HNn.out
    unfold ZC at this ⊢
    rw [e1, e2, HG.out.1, HG.out.2.1, HG.out.2.2] at this
    exact this
  unfold ZC at hS0 HZc
  clear hg2 hg3 hg4
  go_enter Tryz.func11, Tryz.ntmps11
  go_upto_region 1 with fail
  try rw [hwb]
  try rw [hQ]
  clear hwb hQ
  go_upto_region 3 with fail
  go_region_held3 (fun wq => wq.cell? ⟨P, 2, none⟩ = some (.pointer (some ⟨T.t, 0, none⟩)) ∧ wq.cell? ⟨P, 3, none⟩ = some (.pointer (some ⟨U.u, 0, none⟩)) ∧ wq.cell? ⟨P, 4, none⟩ = some (.int .i64 (nn : Int)) ∧ wq.cell? ⟨P, 5, none⟩ = some (.int .i64 98) ∧ wq.cell? ⟨P, 6, none⟩ = some (.int .i64 g2) ∧ wq.cell? ⟨P, 7, none⟩ = some (.int .i64 g3) ∧ wq.cell? ⟨P, 8, none⟩ = some (.int .i64 g4) ∧ wq.cell? ⟨Q, 1, none⟩ = some (.int .i64 N)) (first | exact hS0 | exact hS1) (first
    | (go_at_call 24; refine HPc.out.mono ?_; rintro e w1 ⟨rv, er, row', T', rfl, h1, h2⟩
       have H1 : Hid (HalfT wb.drew w1 T T' U D row' ∧ TkO U K.n (fun i => rxE D.abs U (i : Int)) (fun i => rxB D.abs U (i : Int)) rv er row') := ⟨h1, h2⟩
       have HQ1 : Hid (w1.heap[Q]? = some (.cells #[.int .i64 1, .int .i64 N, .int .u8 x] 46 (0, 0))) := h1.mv.heap HXd.out.2 (fun e => by have := HX.out.1.lt 2 Q e; have := HB.out.2.2; omega)
       have hS1 := HZc.out w1 T U D R rfl rfl (HXd.out.1.midw h1 (Below.refl _ _)).2.2 HQ1.out
       have hS1d := HZc.out w1.drew T U D R rfl rfl (HXd.out.1.midw h1 (Below.refl _ _).drew).2.2 (((Below.refl w1.heap.size w1).drew.block Q (heap_lt HQ1.out)).trans HQ1.out)
       have HRc : Hid (Calls Tryz.prog 25 #[.pointer (some ⟨U.u, 0, none⟩), .agg #[.int .i64 (nn : Int), .int .i64 98, .int .i64 g2, .int .i64 g3, .int .i64 g4]] w1.drew (TkP w1.drew U K.n (fun i => rxE D.abs U (i : Int)) (fun i => rxB D.abs U (i : Int)))) := (by
         have := rtake_any (HXd.out.1.rsmid HX.out.2.1 h1 (Below.refl _ _).drew) (by have := HX.out.2.2; omega)
         unfold geoV at this
         rw [show K.n = nn from HNn.out, HG.out.1, HG.out.2.1, HG.out.2.2] at this
         rw [show K.n = nn from HNn.out]
         exact this)
       clear h1 h2)
    | fail)
  go_upto_region 4 with fail
  go_region_held3 (fun wq => wq.cell? ⟨P, 2, none⟩ = some (.pointer (some ⟨T.t, 0, none⟩)) ∧ wq.cell? ⟨P, 3, none⟩ = some (.pointer (some ⟨U.u, 0, none⟩)) ∧ wq.cell? ⟨P, 4, none⟩ = some (.int .i64 (nn : Int)) ∧ wq.cell? ⟨P, 5, none⟩ = some (.int .i64 98) ∧ wq.cell? ⟨P, 6, none⟩ = some (.int .i64 g2) ∧ wq.cell? ⟨P, 7, none⟩ = some (.int .i64 g3) ∧ wq.cell? ⟨P, 8, none⟩ = some (.int .i64 g4) ∧ wq.cell? ⟨Q, 1, none⟩ = some (.int .i64 N)) (first | exact hS1d | exact hS2) (first
    | (go_at_call 25; refine HRc.out.mono ?_; rintro e w2 ⟨rv2, er2, row2, rfl, ⟨U2, q1, q2, q3, q4⟩, q5⟩
       obtain ⟨rfl, rfl, rfl⟩ := H1.out.2.one q5
       have HX2 : Hid (XS w0 w2 P D R T' U2 K (j + 2)) := HXd.out.1.half H1.out.1 (Below.refl _ _).drew q1 q2 q3 q4 (by have := TkO.len q5; have := HX.out.1.ul; omega) (by omega)
       have HQ2 : Hid (w2.heap[Q]? = some (.cells #[.int .i64 1, .int .i64 N, .int .u8 x] 46 (0, 0))) := q2.fr.heap (((Below.refl w1.heap.size w1).drew.block Q (heap_lt HQ1.out)).trans HQ1.out) (fun e => by have := HX.out.1.lt 3 Q e; have := HB.out.2.2; omega)
       have hS2 := HZc.out w2 T' U2 D R H1.out.1.t q2.u HX2.out.px HQ2.out
       clear q1 q2 q3 q4 q5)
    | fail)
  obtain ⟨d0, d1, d2, d3, d4, d5, d6, d7⟩ := hS2
  go_wp2_with (go_at_call 26; refine (zalike HX2.out _).mono ?_; rintro e w3 ⟨rfl, q1⟩; have HX3 : Hid (XS w0 w3 P D R T' U2 K (j + 2)) := HX2.out.on q1; clear q1)
  go_ret
  exact ⟨rfl, D, R, T', U2, K, HX3.out, HNn.out, by rw [← HNn.out]; exact HX.out.2.1⟩
set_option maxRecDepth 100000 in
set_option maxHeartbeats 8000000 in
theorem zplay2 (h : XS w0 w P D R T U K j) (hn : D.nb = K.n) (hl : U.row.length + 2 ≤ 1000000) (N x : Int) :
    Calls Tryz.prog 11 #[.pointer (some ⟨P, 0, none⟩), .agg #[.int .i64 2, .int .i64 N, .int .u8 x]] w (PlZ w0 P j K.kb) := by
  have HX : Hid (XS w0 w P D R T U K j ∧ D.nb = K.n ∧ U.row.length + 2 ≤ 1000000) := ⟨h, hn, hl⟩
  obtain ⟨Q, hQ⟩ : ∃ Q, w.heap.size = Q := ⟨_, rfl⟩
  obtain ⟨wb, hwb⟩ : ∃ wb, w.alloc (.cells #[.int .i64 2, .int .i64 N, .int .u8 x] 46) = wb := ⟨_, rfl⟩
  have HB : Hid (Below w.heap.size w wb ∧ wb.heap[Q]? = some (.cells #[.int .i64 2, .int .i64 N, .int .u8 x] 46 (0, 0)) ∧ w.heap.size = Q) := by rw [← hwb]; exact ⟨(Below.refl _ _).alloc (Nat.le_refl _) _, by rw [← hQ]; exact heap_alloc_new _ _, hQ⟩
  have HXb : Hid (XS w0 wb P D R T U K j) := h.on HB.out.1
  have HXd : Hid (XS w0 wb.drew P D R T U K j ∧ wb.drew.heap[Q]? = some (.cells #[.int .i64 2, .int .i64 N, .int .u8 x] 46 (0, 0))) := ⟨HXb.out.on (Below.refl _ _).drew, ((Below.refl wb.heap.size wb).drew.block Q (heap_lt HB.out.2.1)).trans HB.out.2.1⟩
  obtain ⟨nn, hnn⟩ : ∃ nn, K.kb = nn := ⟨_, rfl⟩
  have HNn : Hid (K.kb = nn) := hnn
  have hS0 : ZC wb.drew P Q T U nn (gI nn) (gD nn) (gC nn) N := zc_of HXd.out.1.px HXd.out.2 hnn
  obtain ⟨er, her⟩ : ∃ er, rgE U K.n (fun i => rxE D.abs U (i : Int)) (fun i => rxB D.abs U (i : Int)) N = er := ⟨_, rfl⟩
  obtain ⟨rowg, hrow⟩ : ∃ r : List Dn, U.row ++ [(⟨((98 + N.toNat / 4096 : Nat) : Int), bput (rxB D.abs U ((98 + N.toNat / 4096 : Nat) : Int)) (N.toNat % 4096) false⟩ : Dn)] = r := ⟨_, rfl⟩
  obtain ⟨row', hrow'⟩ : ∃ r : List Dn, (if er = 0 then rowg else U.row) = r := ⟨_, rfl⟩
  have HRow : Hid ((if er = 0 then rowg else U.row) = row' ∧ row'.length ≤ U.row.length + 1) := by
    refine ⟨hrow', ?_⟩
    rw [← hrow', ← hrow]
    split
    · rw [List.length_append]; simp
    · omega
  have HPc : Hid (Calls Tryz.prog 27 #[.pointer (some ⟨T.t, 0, none⟩), .agg #[.int .i64 (nn : Int), .int .i64 98, .int .i64 (gI (nn : Int)), .int .i64 (gD (nn : Int)), .int .i64 (gC (nn : Int))], .int .i64 N] wb.drew fun e w1 => e = .returned (.int .i64 er) ∧ ∃ T', HalfT wb.drew w1 T T' U D row') := by
    have := pgive HXd.out.1 hn (by omega) N
    unfold geoV at this
    rw [her, hrow, hrow', show K.n = nn from hnn] at this
    exact this
  have HRg : Hid (∀ wx, RS wx D.abs R (200 * j) U K.n → Calls Tryz.prog 28 #[.pointer (some ⟨U.u, 0, none⟩), .agg #[.int .i64 (nn : Int), .int .i64 98, .int .i64 (gI (nn : Int)), .int .i64 (gD (nn : Int)), .int .i64 (gC (nn : Int))], .int .i64 N] wx (RwP wx U er rowg)) := fun wx hr => by
    have := rgive_any hr (by omega) N
    unfold geoV at this
    rw [her, hrow, show K.n = nn from hnn] at this
    exact this
  clear her hrow hrow'
  have b0 : wb.cell? ⟨Q, 0, none⟩ = some (.int .i64 2) := cell_of_row _ _ 0 _ _ _ HB.out.2.1
  have b1 : wb.cell? ⟨Q, 1, none⟩ = some (.int .i64 N) := cell_of_row _ _ 1 _ _ _ HB.out.2.1
  rw [hnn]
  clear h hn hl hnn
  obtain ⟨g2, hg2⟩ : ∃ g2, gI (nn : Int) = g2 := ⟨_, rfl⟩
  obtain ⟨g3, hg3⟩ : ∃ g3, gD (nn : Int) = g3 := ⟨_, rfl⟩
  obtain ⟨g4, hg4⟩ : ∃ g4, gC (nn : Int) = g4 := ⟨_, rfl⟩
  have HG : Hid (gI (nn : Int) = g2 ∧ gD (nn : Int) = g3 ∧ gC (nn : Int) = g4) := ⟨hg2, hg3, hg4⟩
  rw [hg2, hg3, hg4] at hS0 HPc
  have HZc : Hid (∀ (wq : World) (T9 : Tx) (U9 : RTx) (D9 : Dk) (R9 : RDk), T9.t = T.t → U9.u = U.u → wq.heap[P]? = some (.cells (sdC D9 R9 T9 U9 K) 42 (0, 0)) → wq.heap[Q]? = some (.cells #[.int .i64 2, .int .i64 N, .int .u8 x] 46 (0, 0)) → ZC wq P Q T U nn g2 g3 g4 N) := fun wq T9 U9 D9 R9 e1 e2 hp hq => by
    have := zc_of hp hq HNn.out
    unfold ZC at this ⊢
    rw [e1, e2, HG.out.1, HG.out.2.1, HG.out.2.2] at this
    exact this
  unfold ZC at hS0 HZc
  clear hg2 hg3 hg4
  go_enter Tryz.func11, Tryz.ntmps11
  go_upto_region 1 with fail
  try rw [hwb]
  try rw [hQ]
  clear hwb hQ
  go_upto_region 7 with fail
  go_region_held3 (fun wq => wq.cell? ⟨P, 2, none⟩ = some (.pointer (some ⟨T.t, 0, none⟩)) ∧ wq.cell? ⟨P, 3, none⟩ = some (.pointer (some ⟨U.u, 0, none⟩)) ∧ wq.cell? ⟨P, 4, none⟩ = some (.int .i64 (nn : Int)) ∧ wq.cell? ⟨P, 5, none⟩ = some (.int .i64 98) ∧ wq.cell? ⟨P, 6, none⟩ = some (.int .i64 g2) ∧ wq.cell? ⟨P, 7, none⟩ = some (.int .i64 g3) ∧ wq.cell? ⟨P, 8, none⟩ = some (.int .i64 g4) ∧ wq.cell? ⟨Q, 1, none⟩ = some (.int .i64 N)) (first | exact hS0 | exact hS1) (first
    | (go_at_call 27; refine HPc.out.mono ?_; rintro e w1 ⟨rfl, T', h1⟩
       have H1 : Hid (HalfT wb.drew w1 T T' U D row') := h1
       have HQ1 : Hid (w1.heap[Q]? = some (.cells #[.int .i64 2, .int .i64 N, .int .u8 x] 46 (0, 0))) := h1.mv.heap HXd.out.2 (fun e => by have := HX.out.1.lt 2 Q e; have := HB.out.2.2; omega)
       have hS1 := HZc.out w1 T U D R rfl rfl (HXd.out.1.midw h1 (Below.refl _ _)).2.2 HQ1.out
       have hS1d := HZc.out w1.drew T U D R rfl rfl (HXd.out.1.midw h1 (Below.refl _ _).drew).2.2 (((Below.refl w1.heap.size w1).drew.block Q (heap_lt HQ1.out)).trans HQ1.out)
       have HRc : Hid (Calls Tryz.prog 28 #[.pointer (some ⟨U.u, 0, none⟩), .agg #[.int .i64 (nn : Int), .int .i64 98, .int .i64 g2, .int .i64 g3, .int .i64 g4], .int .i64 N] w1.drew (RwP w1.drew U er rowg)) := (by
         have := HRg.out w1.drew (HXd.out.1.rsmid HX.out.2.1 h1 (Below.refl _ _).drew)
         rw [HG.out.1, HG.out.2.1, HG.out.2.2] at this
         exact this)
       clear h1)
    | fail)
  go_upto_region 8 with fail
  go_region_held3 (fun wq => wq.cell? ⟨P, 2, none⟩ = some (.pointer (some ⟨T.t, 0, none⟩)) ∧ wq.cell? ⟨P, 3, none⟩ = some (.pointer (some ⟨U.u, 0, none⟩)) ∧ wq.cell? ⟨P, 4, none⟩ = some (.int .i64 (nn : Int)) ∧ wq.cell? ⟨P, 5, none⟩ = some (.int .i64 98) ∧ wq.cell? ⟨P, 6, none⟩ = some (.int .i64 g2) ∧ wq.cell? ⟨P, 7, none⟩ = some (.int .i64 g3) ∧ wq.cell? ⟨P, 8, none⟩ = some (.int .i64 g4) ∧ wq.cell? ⟨Q, 1, none⟩ = some (.int .i64 N)) (first | exact hS1d | exact hS2) (first
    | (go_at_call 28; refine HRc.out.mono ?_; rintro e w2 ⟨rfl, U2, q1, q2, q3, q4⟩
       rw [HRow.out.1] at q4
       have HX2 : Hid (XS w0 w2 P D R T' U2 K (j + 2)) := HXd.out.1.half H1.out (Below.refl _ _).drew q1 q2 q3 q4 (by have := HRow.out.2; have := HX.out.1.ul; omega) (by omega)
       have HQ2 : Hid (w2.heap[Q]? = some (.cells #[.int .i64 2, .int .i64 N, .int .u8 x] 46 (0, 0))) := q2.fr.heap (((Below.refl w1.heap.size w1).drew.block Q (heap_lt HQ1.out)).trans HQ1.out) (fun e => by have := HX.out.1.lt 3 Q e; have := HB.out.2.2; omega)
       have hS2 := HZc.out w2 T' U2 D R H1.out.t q2.u HX2.out.px HQ2.out
       clear q1 q2 q3 q4)
    | fail)
  obtain ⟨d0, d1, d2, d3, d4, d5, d6, d7⟩ := hS2
  go_wp2_with (go_at_call 26; refine (zalike HX2.out _).mono ?_; rintro e w3 ⟨rfl, q1⟩; have HX3 : Hid (XS w0 w3 P D R T' U2 K (j + 2)) := HX2.out.on q1; clear q1)
  go_ret
  exact ⟨rfl, D, R, T', U2, K, HX3.out, HNn.out, by rw [← HNn.out]; exact HX.out.2.1⟩
set_option maxRecDepth 100000 in
set_option maxHeartbeats 8000000 in
theorem zplay3 (h : XS w0 w P D R T U K j) (hn : D.nb = K.n) (hl : U.row.length + 2 ≤ 1000000) (N x : Int) (hN : -9223372036854775808 ≤ N ∧ N ≤ 9223372036854775807) :
    Calls Tryz.prog 11 #[.pointer (some ⟨P, 0, none⟩), .agg #[.int .i64 3, .int .i64 N, .int .u8 x]] w (PlZ w0 P j K.kb) := by
  have HX : Hid (XS w0 w P D R T U K j ∧ D.nb = K.n ∧ U.row.length + 2 ≤ 1000000) := ⟨h, hn, hl⟩
  obtain ⟨Q, hQ⟩ : ∃ Q, w.heap.size = Q := ⟨_, rfl⟩
  obtain ⟨wb, hwb⟩ : ∃ wb, w.alloc (.cells #[.int .i64 3, .int .i64 N, .int .u8 x] 46) = wb := ⟨_, rfl⟩
  have HB : Hid (Below w.heap.size w wb ∧ wb.heap[Q]? = some (.cells #[.int .i64 3, .int .i64 N, .int .u8 x] 46 (0, 0)) ∧ w.heap.size = Q) := by rw [← hwb]; exact ⟨(Below.refl _ _).alloc (Nat.le_refl _) _, by rw [← hQ]; exact heap_alloc_new _ _, hQ⟩
  have HXb : Hid (XS w0 wb P D R T U K j) := h.on HB.out.1
  have HXd : Hid (XS w0 wb.drew P D R T U K j ∧ wb.drew.heap[Q]? = some (.cells #[.int .i64 3, .int .i64 N, .int .u8 x] 46 (0, 0))) := ⟨HXb.out.on (Below.refl _ _).drew, ((Below.refl wb.heap.size wb).drew.block Q (heap_lt HB.out.2.1)).trans HB.out.2.1⟩
  obtain ⟨nn, hnn⟩ : ∃ nn, K.kb = nn := ⟨_, rfl⟩
  have HNn : Hid (K.kb = nn) := hnn
  have hS0 : ZC wb.drew P Q T U nn (gI nn) (gD nn) (gC nn) N := zc_of HXd.out.1.px HXd.out.2 hnn
  have HBd : Hid (Below w.heap.size w wb.drew) := HB.out.1.drew
  obtain ⟨bu, hbu⟩ : ∃ b : Bool, (if 0 ≤ N ∧ N < (K.n : Int) then (if rxE D.abs U ((98 + N.toNat / 4096 : Nat) : Int) = 0 then bt (rxB D.abs U ((98 + N.toNat / 4096 : Nat) : Int)) (N.toNat % 4096) else false) else false) = b := ⟨_, rfl⟩
  obtain ⟨er, her⟩ : ∃ er : Int, (if 0 ≤ N ∧ N < (K.n : Int) then rxE D.abs U ((98 + N.toNat / 4096 : Nat) : Int) else 31) = er := ⟨_, rfl⟩
  have HPc : Hid (∀ wx, Below w.heap.size w wx → Calls Tryz.prog 29 #[.pointer (some ⟨T.t, 0, none⟩), .agg #[.int .i64 (nn : Int), .int .i64 98, .int .i64 (gI (nn : Int)), .int .i64 (gD (nn : Int)), .int .i64 (gC (nn : Int))], .int .i64 N] wx fun e w1 => e = .returned (.tuple #[.bool bu, .int .i64 er]) ∧ Below wx.heap.size wx w1) := fun wx hb => by
    have := pused (h.on hb) hn N hN
    unfold geoV at this
    rw [hbu, her, show K.n = nn from hnn] at this
    exact this
  have HRc : Hid (∀ wx, Below w.heap.size w wx → Calls Tryz.prog 30 #[.pointer (some ⟨U.u, 0, none⟩), .agg #[.int .i64 (nn : Int), .int .i64 98, .int .i64 (gI (nn : Int)), .int .i64 (gD (nn : Int)), .int .i64 (gC (nn : Int))], .int .i64 N] wx fun e w1 => e = .returned (.tuple #[.bool bu, .int .i64 er]) ∧ Below wx.heap.size wx w1) := fun wx hb => by
    have := rused_any ((h.on hb).rs9 hn).rr N
    unfold geoV at this
    rw [hbu, her, show K.n = nn from hnn] at this
    exact this
  clear hbu her hN
  have b0 : wb.cell? ⟨Q, 0, none⟩ = some (.int .i64 3) := cell_of_row _ _ 0 _ _ _ HB.out.2.1
  have b1 : wb.cell? ⟨Q, 1, none⟩ = some (.int .i64 N) := cell_of_row _ _ 1 _ _ _ HB.out.2.1
  rw [hnn]
  clear h hn hl hnn
  obtain ⟨g2, hg2⟩ : ∃ g2, gI (nn : Int) = g2 := ⟨_, rfl⟩
  obtain ⟨g3, hg3⟩ : ∃ g3, gD (nn : Int) = g3 := ⟨_, rfl⟩
  obtain ⟨g4, hg4⟩ : ∃ g4, gC (nn : Int) = g4 := ⟨_, rfl⟩
  have HG : Hid (gI (nn : Int) = g2 ∧ gD (nn : Int) = g3 ∧ gC (nn : Int) = g4) := ⟨hg2, hg3, hg4⟩
  rw [hg2, hg3, hg4] at hS0 HPc HRc
  have HZc : Hid (∀ (wq : World) (T9 : Tx) (U9 : RTx) (D9 : Dk) (R9 : RDk), T9.t = T.t → U9.u = U.u → wq.heap[P]? = some (.cells (sdC D9 R9 T9 U9 K) 42 (0, 0)) → wq.heap[Q]? = some (.cells #[.int .i64 3, .int .i64 N, .int .u8 x] 46 (0, 0)) → ZC wq P Q T U nn g2 g3 g4 N) := fun wq T9 U9 D9 R9 e1 e2 hp hq => by
    have := zc_of hp hq HNn.out
    unfold ZC at this ⊢
    rw [e1, e2, HG.out.1, HG.out.2.1, HG.out.2.2] at this
    exact this
  unfold ZC at hS0 HZc
  clear hg2 hg3 hg4
  go_enter Tryz.func11, Tryz.ntmps11
  go_upto_region 1 with fail
  try rw [hwb]
  try rw [hQ]
  clear hwb hQ
  go_upto_region 11 with fail
  go_region_held3 (fun wq => wq.cell? ⟨P, 2, none⟩ = some (.pointer (some ⟨T.t, 0, none⟩)) ∧ wq.cell? ⟨P, 3, none⟩ = some (.pointer (some ⟨U.u, 0, none⟩)) ∧ wq.cell? ⟨P, 4, none⟩ = some (.int .i64 (nn : Int)) ∧ wq.cell? ⟨P, 5, none⟩ = some (.int .i64 98) ∧ wq.cell? ⟨P, 6, none⟩ = some (.int .i64 g2) ∧ wq.cell? ⟨P, 7, none⟩ = some (.int .i64 g3) ∧ wq.cell? ⟨P, 8, none⟩ = some (.int .i64 g4) ∧ wq.cell? ⟨Q, 1, none⟩ = some (.int .i64 N)) (first | exact hS0 | exact hS1) (first
    | (go_at_call 29; refine (HPc.out wb.drew HBd.out).mono ?_; rintro e w1 ⟨rfl, h1⟩
       have HX1 : Hid (XS w0 w1 P D R T U K j ∧ w1.heap[Q]? = some (.cells #[.int .i64 3, .int .i64 N, .int .u8 x] 46 (0, 0)) ∧ Below w.heap.size w w1) := ⟨HXd.out.1.on h1, (h1.block Q (heap_lt HXd.out.2)).trans HXd.out.2, HBd.out.trans (h1.mono HBd.out.size)⟩
       have HXe : Hid (XS w0 w1.drew P D R T U K j ∧ w1.drew.heap[Q]? = some (.cells #[.int .i64 3, .int .i64 N, .int .u8 x] 46 (0, 0)) ∧ Below w.heap.size w w1.drew) := ⟨HX1.out.1.on (Below.refl _ _).drew, ((Below.refl w1.heap.size w1).drew.block Q (heap_lt HX1.out.2.1)).trans HX1.out.2.1, HX1.out.2.2.drew⟩
       have hS1 := HZc.out w1 T U D R rfl rfl HX1.out.1.px HX1.out.2.1
       have hS1d := HZc.out w1.drew T U D R rfl rfl HXe.out.1.px HXe.out.2.1
       clear h1)
    | fail)
  go_upto_region 12 with fail
  go_region_held3 (fun wq => wq.cell? ⟨P, 2, none⟩ = some (.pointer (some ⟨T.t, 0, none⟩)) ∧ wq.cell? ⟨P, 3, none⟩ = some (.pointer (some ⟨U.u, 0, none⟩)) ∧ wq.cell? ⟨P, 4, none⟩ = some (.int .i64 (nn : Int)) ∧ wq.cell? ⟨P, 5, none⟩ = some (.int .i64 98) ∧ wq.cell? ⟨P, 6, none⟩ = some (.int .i64 g2) ∧ wq.cell? ⟨P, 7, none⟩ = some (.int .i64 g3) ∧ wq.cell? ⟨P, 8, none⟩ = some (.int .i64 g4) ∧ wq.cell? ⟨Q, 1, none⟩ = some (.int .i64 N)) (first | exact hS1d | exact hS2) (first
    | (go_at_call 30; refine (HRc.out w1.drew HXe.out.2.2).mono ?_; rintro e w2 ⟨rfl, h1⟩
       have HX2 : Hid (XS w0 w2 P D R T U K j ∧ w2.heap[Q]? = some (.cells #[.int .i64 3, .int .i64 N, .int .u8 x] 46 (0, 0))) := ⟨HXe.out.1.on h1, (h1.block Q (heap_lt HXe.out.2.1)).trans HXe.out.2.1⟩
       have hS2 := HZc.out w2 T U D R rfl rfl HX2.out.1.px HX2.out.2
       clear h1)
    | fail)
  obtain ⟨d0, d1, d2, d3, d4, d5, d6, d7⟩ := hS2
  go_wp2_with (go_at_call 26; refine (zalike HX2.out.1 _).mono ?_; rintro e w3 ⟨rfl, q1⟩; have HX3 : Hid (XS w0 w3 P D R T U K j) := HX2.out.1.on q1; clear q1)
  go_ret
  exact ⟨rfl, D, R, T, U, K, HX3.out.up (by omega), HNn.out, by rw [← HNn.out]; exact HX.out.2.1⟩
set_option maxRecDepth 100000 in
set_option maxHeartbeats 8000000 in
theorem zplay4 (h : XS w0 w P D R T U K j) (hn : D.nb = K.n) (hl : U.row.length + 2 ≤ 1000000) (N x : Int) :
    Calls Tryz.prog 11 #[.pointer (some ⟨P, 0, none⟩), .agg #[.int .i64 4, .int .i64 N, .int .u8 x]] w (PlZ w0 P j K.kb) := by
  have HX : Hid (XS w0 w P D R T U K j ∧ D.nb = K.n ∧ U.row.length + 2 ≤ 1000000) := ⟨h, hn, hl⟩
  obtain ⟨Q, hQ⟩ : ∃ Q, w.heap.size = Q := ⟨_, rfl⟩
  obtain ⟨wb, hwb⟩ : ∃ wb, w.alloc (.cells #[.int .i64 4, .int .i64 N, .int .u8 x] 46) = wb := ⟨_, rfl⟩
  have HB : Hid (Below w.heap.size w wb ∧ wb.heap[Q]? = some (.cells #[.int .i64 4, .int .i64 N, .int .u8 x] 46 (0, 0)) ∧ w.heap.size = Q) := by rw [← hwb]; exact ⟨(Below.refl _ _).alloc (Nat.le_refl _) _, by rw [← hQ]; exact heap_alloc_new _ _, hQ⟩
  have HXb : Hid (XS w0 wb P D R T U K j) := h.on HB.out.1
  have HXd : Hid (XS w0 wb.drew P D R T U K j ∧ wb.drew.heap[Q]? = some (.cells #[.int .i64 4, .int .i64 N, .int .u8 x] 46 (0, 0))) := ⟨HXb.out.on (Below.refl _ _).drew, ((Below.refl wb.heap.size wb).drew.block Q (heap_lt HB.out.2.1)).trans HB.out.2.1⟩
  obtain ⟨nn, hnn⟩ : ∃ nn, K.kb = nn := ⟨_, rfl⟩
  have HNn : Hid (K.kb = nn) := hnn
  have hS0 : ZC wb.drew P Q T U nn (gI nn) (gD nn) (gC nn) N := zc_of HXd.out.1.px HXd.out.2 hnn
  have HBd : Hid (Below w.heap.size w wb.drew) := HB.out.1.drew
  obtain ⟨cf, er, hP, hR⟩ := pfree h hn
  unfold geoV at hP hR
  rw [show K.n = nn from hnn] at hP hR
  have HPc : Hid (∀ wx, Below w.heap.size w wx → Calls Tryz.prog 31 #[.pointer (some ⟨T.t, 0, none⟩), .agg #[.int .i64 (nn : Int), .int .i64 98, .int .i64 (gI (nn : Int)), .int .i64 (gD (nn : Int)), .int .i64 (gC (nn : Int))]] wx fun e w1 => e = .returned (.tuple #[.int .i64 (cf : Int), .int .i64 er]) ∧ Below wx.heap.size wx w1) := hP
  have HRc : Hid (∀ wx, Below w.heap.size w wx → Calls Tryz.prog 32 #[.pointer (some ⟨U.u, 0, none⟩), .agg #[.int .i64 (nn : Int), .int .i64 98, .int .i64 (gI (nn : Int)), .int .i64 (gD (nn : Int)), .int .i64 (gC (nn : Int))]] wx fun e w1 => e = .returned (.tuple #[.int .i64 (cf : Int), .int .i64 er]) ∧ Below wx.heap.size wx w1) := hR
  clear hP hR
  have b0 : wb.cell? ⟨Q, 0, none⟩ = some (.int .i64 4) := cell_of_row _ _ 0 _ _ _ HB.out.2.1
  have b1 : wb.cell? ⟨Q, 1, none⟩ = some (.int .i64 N) := cell_of_row _ _ 1 _ _ _ HB.out.2.1
  rw [hnn]
  clear h hn hl hnn
  obtain ⟨g2, hg2⟩ : ∃ g2, gI (nn : Int) = g2 := ⟨_, rfl⟩
  obtain ⟨g3, hg3⟩ : ∃ g3, gD (nn : Int) = g3 := ⟨_, rfl⟩
  obtain ⟨g4, hg4⟩ : ∃ g4, gC (nn : Int) = g4 := ⟨_, rfl⟩
  have HG : Hid (gI (nn : Int) = g2 ∧ gD (nn : Int) = g3 ∧ gC (nn : Int) = g4) := ⟨hg2, hg3, hg4⟩
  rw [hg2, hg3, hg4] at hS0 HPc HRc
  have HZc : Hid (∀ (wq : World) (T9 : Tx) (U9 : RTx) (D9 : Dk) (R9 : RDk), T9.t = T.t → U9.u = U.u → wq.heap[P]? = some (.cells (sdC D9 R9 T9 U9 K) 42 (0, 0)) → wq.heap[Q]? = some (.cells #[.int .i64 4, .int .i64 N, .int .u8 x] 46 (0, 0)) → ZC wq P Q T U nn g2 g3 g4 N) := fun wq T9 U9 D9 R9 e1 e2 hp hq => by
    have := zc_of hp hq HNn.out
    unfold ZC at this ⊢
    rw [e1, e2, HG.out.1, HG.out.2.1, HG.out.2.2] at this
    exact this
  unfold ZC at hS0 HZc
  clear hg2 hg3 hg4
  go_enter Tryz.func11, Tryz.ntmps11
  go_upto_region 1 with fail
  try rw [hwb]
  try rw [hQ]
  clear hwb hQ
  go_upto_region 15 with fail
  go_region_held3 (fun wq => wq.cell? ⟨P, 2, none⟩ = some (.pointer (some ⟨T.t, 0, none⟩)) ∧ wq.cell? ⟨P, 3, none⟩ = some (.pointer (some ⟨U.u, 0, none⟩)) ∧ wq.cell? ⟨P, 4, none⟩ = some (.int .i64 (nn : Int)) ∧ wq.cell? ⟨P, 5, none⟩ = some (.int .i64 98) ∧ wq.cell? ⟨P, 6, none⟩ = some (.int .i64 g2) ∧ wq.cell? ⟨P, 7, none⟩ = some (.int .i64 g3) ∧ wq.cell? ⟨P, 8, none⟩ = some (.int .i64 g4) ∧ wq.cell? ⟨Q, 1, none⟩ = some (.int .i64 N)) (first | exact hS0 | exact hS1) (first
    | (go_at_call 31; refine (HPc.out wb.drew HBd.out).mono ?_; rintro e w1 ⟨rfl, h1⟩
       have HX1 : Hid (XS w0 w1 P D R T U K j ∧ w1.heap[Q]? = some (.cells #[.int .i64 4, .int .i64 N, .int .u8 x] 46 (0, 0)) ∧ Below w.heap.size w w1) := ⟨HXd.out.1.on h1, (h1.block Q (heap_lt HXd.out.2)).trans HXd.out.2, HBd.out.trans (h1.mono HBd.out.size)⟩
       have HXe : Hid (XS w0 w1.drew P D R T U K j ∧ w1.drew.heap[Q]? = some (.cells #[.int .i64 4, .int .i64 N, .int .u8 x] 46 (0, 0)) ∧ Below w.heap.size w w1.drew) := ⟨HX1.out.1.on (Below.refl _ _).drew, ((Below.refl w1.heap.size w1).drew.block Q (heap_lt HX1.out.2.1)).trans HX1.out.2.1, HX1.out.2.2.drew⟩
       have hS1 := HZc.out w1 T U D R rfl rfl HX1.out.1.px HX1.out.2.1
       have hS1d := HZc.out w1.drew T U D R rfl rfl HXe.out.1.px HXe.out.2.1
       clear h1)
    | fail)
  go_upto_region 16 with fail
  go_region_held3 (fun wq => wq.cell? ⟨P, 2, none⟩ = some (.pointer (some ⟨T.t, 0, none⟩)) ∧ wq.cell? ⟨P, 3, none⟩ = some (.pointer (some ⟨U.u, 0, none⟩)) ∧ wq.cell? ⟨P, 4, none⟩ = some (.int .i64 (nn : Int)) ∧ wq.cell? ⟨P, 5, none⟩ = some (.int .i64 98) ∧ wq.cell? ⟨P, 6, none⟩ = some (.int .i64 g2) ∧ wq.cell? ⟨P, 7, none⟩ = some (.int .i64 g3) ∧ wq.cell? ⟨P, 8, none⟩ = some (.int .i64 g4) ∧ wq.cell? ⟨Q, 1, none⟩ = some (.int .i64 N)) (first | exact hS1d | exact hS2) (first
    | (go_at_call 32; refine (HRc.out w1.drew HXe.out.2.2).mono ?_; rintro e w2 ⟨rfl, h1⟩
       have HX2 : Hid (XS w0 w2 P D R T U K j ∧ w2.heap[Q]? = some (.cells #[.int .i64 4, .int .i64 N, .int .u8 x] 46 (0, 0))) := ⟨HXe.out.1.on h1, (h1.block Q (heap_lt HXe.out.2.1)).trans HXe.out.2.1⟩
       have hS2 := HZc.out w2 T U D R rfl rfl HX2.out.1.px HX2.out.2
       clear h1)
    | fail)
  obtain ⟨d0, d1, d2, d3, d4, d5, d6, d7⟩ := hS2
  go_wp2_with (go_at_call 26; refine (zalike HX2.out.1 _).mono ?_; rintro e w3 ⟨rfl, q1⟩; have HX3 : Hid (XS w0 w3 P D R T U K j) := HX2.out.1.on q1; clear q1)
  go_ret
  exact ⟨rfl, D, R, T, U, K, HX3.out.up (by omega), HNn.out, by rw [← HNn.out]; exact HX.out.2.1⟩
end Go.Proofs.YtflienghgobmoaaGreatDoor

import Derived.Test.YtflienghgobmoaaGreatDoorYsB
import Derived.Test.YtflienghgobmoaaGreatDoorKXsP
import Derived.Test.YtflienghgobmoaaGreatDoorSpI
namespace Go.Proofs.YtflienghgobmoaaGreatDoor
open Go.RowKit Go.Maps Rec
variable {w0 w w1 wx w2 w' : World} {P j j' : Nat} {D D' : Dk} {R R' : RDk} {T T' : Tx} {U U' : RTx} {K K' : Kb}
set_option maxRecDepth 100000 in
set_option maxHeartbeats 8000000 in
theorem zplay5 (h : XS w0 w P D R T U K j) (hn : D.nb = K.n) (N x : Int) :
    Calls Tryz.prog 11 #[.pointer (some ⟨P, 0, none⟩), .agg #[.int .i64 5, .int .i64 N, .int .u8 x]] w (PlZ w0 P j K.kb) := by
  have HX : Hid (XS w0 w P D R T U K j ∧ D.nb = K.n) := ⟨h, hn⟩
  obtain ⟨Q, hQ⟩ : ∃ Q, w.heap.size = Q := ⟨_, rfl⟩
  obtain ⟨wb, hwb⟩ : ∃ wb, w.alloc (.cells #[.int .i64 5, .int .i64 N, .int .u8 x] 46) = wb := ⟨_, rfl⟩
  have HB : Hid (Below w.heap.size w wb ∧ wb.heap[Q]? = some (.cells #[.int .i64 5, .int .i64 N, .int .u8 x] 46 (0, 0)) ∧ w.heap.size = Q) := by rw [← hwb]; exact ⟨(Below.refl _ _).alloc (Nat.le_refl _) _, by rw [← hQ]; exact heap_alloc_new _ _, hQ⟩
  have HXb : Hid (XS w0 wb P D R T U K j) := h.on HB.out.1
  have HC : Hid (∀ wx, Below w.heap.size w wx → wx.cell? ⟨P, 2, none⟩ = some (.pointer (some ⟨T.t, 0, none⟩)) ∧ wx.cell? ⟨P, 3, none⟩ = some (.pointer (some ⟨U.u, 0, none⟩))) := fun wx hb => (h.on hb).ptrs.2.2
  have b0 : wb.cell? ⟨Q, 0, none⟩ = some (.int .i64 5) := cell_of_row _ _ 0 _ _ _ HB.out.2.1
  have b1 : wb.cell? ⟨Q, 1, none⟩ = some (.int .i64 N) := cell_of_row _ _ 1 _ _ _ HB.out.2.1
  have b2 : wb.cell? ⟨Q, 2, none⟩ = some (.int .u8 x) := cell_of_row _ _ 2 _ _ _ HB.out.2.1
  clear h hn
  go_enter Tryz.func11, Tryz.ntmps11
  go_upto_region 1 with fail
  try rw [hwb]
  try rw [hQ]
  clear hwb hQ
  go_wp2_with (go_at_call 33; refine (zsame HXb.out _).mono ?_; rintro e w1 ⟨rfl, h1⟩; have H1 : Hid (XS w0 w1 P D R T U K j) := HXb.out.on h1; clear h1)
  go_ret
  exact ⟨rfl, D, R, T, U, K, H1.out.up (by omega), rfl, HX.out.2⟩
set_option maxRecDepth 100000 in
set_option maxHeartbeats 8000000 in
theorem zplay7 (h : XS w0 w P D R T U K j) (hn : D.nb = K.n) (N x : Int) :
    Calls Tryz.prog 11 #[.pointer (some ⟨P, 0, none⟩), .agg #[.int .i64 7, .int .i64 N, .int .u8 x]] w (PlZ w0 P j K.kb) := by
  have HX : Hid (XS w0 w P D R T U K j ∧ D.nb = K.n) := ⟨h, hn⟩
  obtain ⟨Q, hQ⟩ : ∃ Q, w.heap.size = Q := ⟨_, rfl⟩
  obtain ⟨wb, hwb⟩ : ∃ wb, w.alloc (.cells #[.int .i64 7, .int .i64 N, .int .u8 x] 46) = wb := ⟨_, rfl⟩
  have HB : Hid (Below w.heap.size w wb ∧ wb.heap[Q]? = some (.cells #[.int .i64 7, .int .i64 N, .int .u8 x] 46 (0, 0)) ∧ w.heap.size = Q) := by rw [← hwb]; exact ⟨(Below.refl _ _).alloc (Nat.le_refl _) _, by rw [← hQ]; exact heap_alloc_new _ _, hQ⟩
  have HXb : Hid (XS w0 wb P D R T U K j) := h.on HB.out.1
  have HC : Hid (∀ wx, Below w.heap.size w wx → wx.cell? ⟨P, 2, none⟩ = some (.pointer (some ⟨T.t, 0, none⟩)) ∧ wx.cell? ⟨P, 3, none⟩ = some (.pointer (some ⟨U.u, 0, none⟩))) := fun wx hb => (h.on hb).ptrs.2.2
  have b0 : wb.cell? ⟨Q, 0, none⟩ = some (.int .i64 7) := cell_of_row _ _ 0 _ _ _ HB.out.2.1
  have b1 : wb.cell? ⟨Q, 1, none⟩ = some (.int .i64 N) := cell_of_row _ _ 1 _ _ _ HB.out.2.1
  have b2 : wb.cell? ⟨Q, 2, none⟩ = some (.int .u8 x) := cell_of_row _ _ 2 _ _ _ HB.out.2.1
  obtain ⟨l, hl, HPW', HRW'⟩ := zwritten h
  obtain ⟨m, hm⟩ : ∃ m, l.length = m := ⟨_, rfl⟩
  have HPW : Hid (∀ wx, Below w.heap.size w wx → Calls Tryz.prog 38 #[.pointer (some ⟨T.t, 0, none⟩)] wx fun e w' => ∃ g k, e = .returned (.slice g m k) ∧ IntsAt w' (.slice g m k) l ∧ Below wx.heap.size wx w') := fun wx hb => by
    refine (HPW' wx hb).mono ?_
    rintro e w' ⟨v, rfl, q1⟩
    obtain ⟨g2, k2, rfl, _⟩ := owns_slice q1.row
    rw [← hm]
    exact ⟨g2, k2, rfl, owl_ints q1, q1.bel⟩
  have HRW : Hid (∀ wx, Below w.heap.size w wx → Calls Tryz.prog 39 #[.pointer (some ⟨U.u, 0, none⟩)] wx fun e w' => ∃ g k, e = .returned (.slice g m k) ∧ IntsAt w' (.slice g m k) l ∧ Below wx.heap.size wx w') := fun wx hb => by
    refine (HRW' wx hb).mono ?_
    rintro e w' ⟨v, rfl, q1⟩
    obtain ⟨g2, k2, rfl, _⟩ := owns_slice q1.row
    rw [← hm]
    exact ⟨g2, k2, rfl, owl_ints q1, q1.bel⟩
  have HLn : Hid (l.length = m ∧ m ≤ 16384) := ⟨hm, by rw [← hm]; exact hl⟩
  clear HPW' HRW' hl hm
  clear h hn
  go_enter Tryz.func11, Tryz.ntmps11
  go_upto_region 1 with fail
  try rw [hwb]
  try rw [hQ]
  clear hwb hQ
  go_upto_region 23 with fail
  have HBd : Hid (Below w.heap.size w wb.drew) := HB.out.1.drew
  have hS0 := HC.out wb.drew HBd.out
  go_region_held3 (fun w' => w'.cell? ⟨P, 2, none⟩ = some (.pointer (some ⟨T.t, 0, none⟩)) ∧ w'.cell? ⟨P, 3, none⟩ = some (.pointer (some ⟨U.u, 0, none⟩))) (first | exact hS0 | exact hS2 | exact hS3 | exact hS4) (first
    | (go_at_call 38; refine (HPW.out _ HBd.out).mono ?_; rintro e v2 ⟨g2, k2, rfl, q1, q2⟩; have H2 : Hid (IntsAt v2 (.slice g2 m k2) l ∧ Below w.heap.size w v2) := ⟨q1, HBd.out.trans (q2.mono HBd.out.size)⟩; have hS2 := HC.out v2 H2.out.2; clear q1 q2)
    | (go_at_call 39; refine (HRW.out v2 H2.out.2).mono ?_; rintro e v3 ⟨g3, k3, rfl, q1, q2⟩; have H3 : Hid (IntsAt v3 (.slice g2 m k2) l ∧ IntsAt v3 (.slice g3 m k3) l ∧ Below w.heap.size w v3) := ⟨H2.out.1.on q2, q1, H2.out.2.trans (q2.mono H2.out.2.size)⟩; have hS3 := HC.out v3 H3.out.2.2; clear q1 q2)
    | (go_at_call 37; refine (zsameInts v3 _ _ l m HLn.out.1 (by have := HLn.out.2; omega) H3.out.1 H3.out.2.1).mono ?_; rintro e v4 ⟨rfl, q1⟩; have H4 : Hid (Below w.heap.size w v4) := H3.out.2.2.trans (q1.mono H3.out.2.2.size); have hS4 := HC.out v4 H4.out; clear q1)
    | fail)
  all_goals
    go_wp2
    go_ret
    exact ⟨rfl, D, R, T, U, K, (HX.out.1.on H4.out).up (by omega), rfl, HX.out.2⟩
set_option maxRecDepth 100000 in
set_option maxHeartbeats 8000000 in
theorem pabort (h : XS w0 w P D R T U K j) : Calls Tryz.prog 42 #[.pointer (some ⟨T.t, 0, none⟩)] w fun e w1 => e = .returned (.tuple #[]) ∧ (w1.cell? ⟨P, 3, none⟩ = some (.pointer (some ⟨U.u, 0, none⟩))) ∧ Calls Tryz.prog 43 #[.pointer (some ⟨U.u, 0, none⟩)] w1 fun e w2 => e = .returned (.tuple #[]) ∧ XS w0 w2 P D R T { U with ends := true } K j := by
  obtain ⟨cs, h4, hr⟩ := h.rowT
  refine (abort_any w T.t cs h4 hr).mono ?_
  rintro e w1 ⟨rfl, h1, h2⟩
  have hneP : ¬ P = T.t := fun e => h.sep.ne (i := 5) (j := 2) (by omega) (k := P) rfl (e ▸ .inl (.inl rfl))
  refine ⟨rfl, h2.cell h.ptrs.2.2.2 hneP, ?_⟩
  refine (rxabort_any w1 U (h.ux.fr h2 (fun k e e2 => h.sep.ne (i := 3) (j := 2) (by omega) e (e2 ▸ .inl (.inl rfl))))).mono ?_
  rintro e w2 ⟨rfl, q1, q2⟩
  exact ⟨rfl, h.fin h1 h2 (Below.refl _ _) q1 q2 (Nat.le_refl _)⟩
set_option maxRecDepth 100000 in
set_option maxHeartbeats 8000000 in
theorem zplay9 (h : XS w0 w P D R T U K j) (hn : D.nb = K.n) (N x : Int) :
    Calls Tryz.prog 11 #[.pointer (some ⟨P, 0, none⟩), .agg #[.int .i64 9, .int .i64 N, .int .u8 x]] w (PlZ w0 P j K.kb) := by
  have HX : Hid (XS w0 w P D R T U K j ∧ D.nb = K.n) := ⟨h, hn⟩
  obtain ⟨Q, hQ⟩ : ∃ Q, w.heap.size = Q := ⟨_, rfl⟩
  obtain ⟨wb, hwb⟩ : ∃ wb, w.alloc (.cells #[.int .i64 9, .int .i64 N, .int .u8 x] 46) = wb := ⟨_, rfl⟩
  have HB : Hid (Below w.heap.size w wb ∧ wb.heap[Q]? = some (.cells #[.int .i64 9, .int .i64 N, .int .u8 x] 46 (0, 0)) ∧ w.heap.size = Q) := by rw [← hwb]; exact ⟨(Below.refl _ _).alloc (Nat.le_refl _) _, by rw [← hQ]; exact heap_alloc_new _ _, hQ⟩
  have HXb : Hid (XS w0 wb P D R T U K j) := h.on HB.out.1
  have HC : Hid (∀ wx, Below w.heap.size w wx → wx.cell? ⟨P, 2, none⟩ = some (.pointer (some ⟨T.t, 0, none⟩)) ∧ wx.cell? ⟨P, 3, none⟩ = some (.pointer (some ⟨U.u, 0, none⟩))) := fun wx hb => (h.on hb).ptrs.2.2
  have b0 : wb.cell? ⟨Q, 0, none⟩ = some (.int .i64 9) := cell_of_row _ _ 0 _ _ _ HB.out.2.1
  have b1 : wb.cell? ⟨Q, 1, none⟩ = some (.int .i64 N) := cell_of_row _ _ 1 _ _ _ HB.out.2.1
  have b2 : wb.cell? ⟨Q, 2, none⟩ = some (.int .u8 x) := cell_of_row _ _ 2 _ _ _ HB.out.2.1
  clear h hn
  obtain ⟨c2, c3⟩ := HC.out wb HB.out.1
  go_enter Tryz.func11, Tryz.ntmps11
  go_upto_region 1 with fail
  try rw [hwb]
  try rw [hQ]
  clear hwb hQ
  go_wp2_with (first
    | (go_at_call 42; refine (pabort HXb.out).mono ?_; rintro e w1 ⟨rfl, h1, h2⟩; have HR : Hid (Calls Tryz.prog 43 #[.pointer (some ⟨U.u, 0, none⟩)] w1 fun e w2 => e = .returned (.tuple #[]) ∧ XS w0 w2 P D R T { U with ends := true } K j) := h2; clear h2 c3; have c3 := h1; clear h1)
    | (go_at_call 43; refine HR.out.mono ?_; rintro e w2 ⟨rfl, h2⟩; have H2 : Hid (XS w0 w2 P D R T { U with ends := true } K j) := h2; clear h2))
  go_ret
  exact ⟨rfl, D, R, T, _, K, H2.out.up (by omega), rfl, HX.out.2⟩
set_option maxRecDepth 100000 in
set_option maxHeartbeats 8000000 in
theorem zplay6 (h : XS w0 w P D R T U K j) (hn : D.nb = K.n) (N x : Int) (hx : 0 ≤ x ∧ x < 256) (hl : U.row.length + 1 ≤ 4000000) :
    Calls Tryz.prog 11 #[.pointer (some ⟨P, 0, none⟩), .agg #[.int .i64 6, .int .i64 N, .int .u8 x]] w (PlZ w0 P j K.kb) := by
  have HX : Hid (XS w0 w P D R T U K j ∧ D.nb = K.n) := ⟨h, hn⟩
  obtain ⟨Q, hQ⟩ : ∃ Q, w.heap.size = Q := ⟨_, rfl⟩
  obtain ⟨wb, hwb⟩ : ∃ wb, w.alloc (.cells #[.int .i64 6, .int .i64 N, .int .u8 x] 46) = wb := ⟨_, rfl⟩
  have HB : Hid (Below w.heap.size w wb ∧ wb.heap[Q]? = some (.cells #[.int .i64 6, .int .i64 N, .int .u8 x] 46 (0, 0)) ∧ w.heap.size = Q) := by rw [← hwb]; exact ⟨(Below.refl _ _).alloc (Nat.le_refl _) _, by rw [← hQ]; exact heap_alloc_new _ _, hQ⟩
  have HXb : Hid (XS w0 wb P D R T U K j) := h.on HB.out.1
  have HC : Hid (∀ wx, Below w.heap.size w wx → wx.cell? ⟨P, 2, none⟩ = some (.pointer (some ⟨T.t, 0, none⟩)) ∧ wx.cell? ⟨P, 3, none⟩ = some (.pointer (some ⟨U.u, 0, none⟩))) := fun wx hb => (h.on hb).ptrs.2.2
  have b0 : wb.cell? ⟨Q, 0, none⟩ = some (.int .i64 6) := cell_of_row _ _ 0 _ _ _ HB.out.2.1
  have b1 : wb.cell? ⟨Q, 1, none⟩ = some (.int .i64 N) := cell_of_row _ _ 1 _ _ _ HB.out.2.1
  have b2 : wb.cell? ⟨Q, 2, none⟩ = some (.int .u8 x) := cell_of_row _ _ 2 _ _ _ HB.out.2.1
  have HXs : Hid ((0 ≤ x ∧ x < 256) ∧ U.row.length + 1 ≤ 4000000) := ⟨hx, hl⟩
  obtain ⟨er, her⟩ : ∃ er, rwE U D.nb N 512 = er := ⟨_, rfl⟩
  obtain ⟨row', hrow'⟩ : ∃ r : List Dn, (if er = 0 then U.row ++ [(⟨N, one x⟩ : Dn)] else U.row) = r := ⟨_, rfl⟩
  have HRow : Hid (rwE U D.nb N 512 = er ∧ (if er = 0 then U.row ++ [(⟨N, one x⟩ : Dn)] else U.row) = row' ∧ row'.length ≤ U.row.length + 1) := by
    refine ⟨her, hrow', ?_⟩
    rw [← hrow']
    split
    · rw [List.length_append]; simp
    · omega
  clear her hrow' hl
  clear h hn
  go_enter Tryz.func11, Tryz.ntmps11
  go_upto_region 1 with fail
  try rw [hwb]
  try rw [hQ]
  clear hwb hQ
  go_upto_region 21 with fail
  have HBd : Hid (Below w.heap.size w wb.drew ∧ XS w0 wb.drew P D R T U K j ∧ wb.drew.heap[Q]? = some (.cells #[.int .i64 6, .int .i64 N, .int .u8 x] 46 (0, 0))) := ⟨HB.out.1.drew, HXb.out.on (Below.refl _ _).drew, ((Below.refl wb.heap.size wb).drew.block Q (heap_lt HB.out.2.1)).trans HB.out.2.1⟩
  have HS : Hid (∀ (wq : World) (T9 : Tx) (U9 : RTx) (D9 : Dk) (R9 : RDk), T9.t = T.t → U9.u = U.u → wq.heap[P]? = some (.cells (sdC D9 R9 T9 U9 K) 42 (0, 0)) → wq.heap[Q]? = some (.cells #[.int .i64 6, .int .i64 N, .int .u8 x] 46 (0, 0)) → wq.cell? ⟨P, 2, none⟩ = some (.pointer (some ⟨T.t, 0, none⟩)) ∧ wq.cell? ⟨P, 3, none⟩ = some (.pointer (some ⟨U.u, 0, none⟩)) ∧ wq.cell? ⟨Q, 1, none⟩ = some (.int .i64 N) ∧ wq.cell? ⟨Q, 2, none⟩ = some (.int .u8 x)) := fun wq T9 U9 D9 R9 e1 e2 hp hq => by
    have c := fun i => cell_of_row _ _ i _ _ _ hp
    refine ⟨?_, ?_, cell_of_row _ _ 1 _ _ _ hq, cell_of_row _ _ 2 _ _ _ hq⟩
    · rw [← e1]; exact c 2
    · rw [← e2]; exact c 3
  have hS0 := HS.out wb.drew T U D R rfl rfl HBd.out.2.1.px HBd.out.2.2
  have TK0 : Hid True := trivial
  go_region_held3 (fun w' => w'.cell? ⟨P, 2, none⟩ = some (.pointer (some ⟨T.t, 0, none⟩)) ∧ w'.cell? ⟨P, 3, none⟩ = some (.pointer (some ⟨U.u, 0, none⟩)) ∧ w'.cell? ⟨Q, 1, none⟩ = some (.int .i64 N) ∧ w'.cell? ⟨Q, 2, none⟩ = some (.int .u8 x)) (first | exact hS0 | exact hS1 | exact hS2 | exact hS3 | exact hS4) (first
    | (go_at_call 35; have hh := TK0.out; clear hh; refine (lblock_any wb.drew x HXs.out.1).mono ?_; rintro e w1 ⟨rfl, h1, h2⟩; have H1 : Hid (OwnB w1 wb.drew.heap.size 512 (one x) ∧ XS w0 w1 P D R T U K j ∧ w1.heap[Q]? = some (.cells #[.int .i64 6, .int .i64 N, .int .u8 x] 46 (0, 0))) := ⟨h1, HBd.out.2.1.on h2, (h2.block Q (heap_lt HBd.out.2.2)).trans HBd.out.2.2⟩; have hS1 := HS.out w1 T U D R rfl rfl H1.out.2.1.px H1.out.2.2; clear h1 h2 TK0)
    | (go_at_call 34; refine (half_write H1.out.2.1 HXs.out.2 N _ 512 512 (one x) H1.out.1.bytes (by simp [one])).mono ?_; rintro e w2 ⟨rfl, T', h2⟩; rw [HRow.out.1] at h2 ⊢; rw [HRow.out.2.1] at h2; have H2 : Hid (HalfT w1 w2 T T' U D row' ∧ w2.heap[Q]? = some (.cells #[.int .i64 6, .int .i64 N, .int .u8 x] 46 (0, 0))) := ⟨h2, h2.mv.heap H1.out.2.2 (fun e => by have := HX.out.1.lt 2 Q e; have := HB.out.2.2; omega)⟩; have hS2 := HS.out w2 T U D R rfl rfl (H1.out.2.1.midw h2 (Below.refl _ _)).2.2 H2.out.2; have TK1 : Hid True := trivial; clear h2)
    | (go_at_call 35; have hh := TK1.out; clear hh; refine (lblock_any w2 x HXs.out.1).mono ?_; rintro e w3 ⟨rfl, h1, h2⟩; have H3 : Hid (OwnB w3 w2.heap.size 512 (one x) ∧ Below w2.heap.size w2 w3 ∧ w3.heap[Q]? = some (.cells #[.int .i64 6, .int .i64 N, .int .u8 x] 46 (0, 0))) := ⟨h1, h2, (h2.block Q (heap_lt H2.out.2)).trans H2.out.2⟩; have hS3 := HS.out w3 T U D R rfl rfl (H1.out.2.1.midw H2.out.1 h2).2.2 H3.out.2.2; have HRw : Hid (Calls Tryz.prog 36 #[.pointer (some ⟨U.u, 0, none⟩), .int .i64 N, .slice (some ⟨w2.heap.size, 0, none⟩) 512 512] w3 fun e w' => e = .returned (.int .i64 er) ∧ ∃ U', RTxAt w' U' ∧ UMv w3 U w' U' ∧ U'.ends = U.ends ∧ U'.row = row') := (by
         have hr := H1.out.2.1.rsmid HX.out.2 H2.out.1 h2
         have := rxwrite_any w3 D.abs R (200 * j) hr.t U hr.x hr.r HXs.out.2 N (some ⟨w2.heap.size, 0, none⟩) 512 512 (one x) h1.bytes (by simp [one]) (by omega)
         rw [show D.abs.nb = D.nb from rfl, HRow.out.1, HRow.out.2.1] at this
         exact this); clear h1 h2 TK1)
    | (go_at_call 36; refine HRw.out.mono ?_; rintro e w4 ⟨rfl, U2, q1, q2, q3, q4⟩; have H4 : Hid (XS w0 w4 P D R T' U2 K (j + 2)) := H1.out.2.1.half H2.out.1 H3.out.2.1 q1 q2 q3 q4 (by have := HRow.out.2.2; have := HX.out.1.ul; omega) (by omega); have hS4 := HS.out w4 T' U2 D R H2.out.1.t q2.u H4.out.px (q2.fr.heap H3.out.2.2 (fun e => by have := HX.out.1.lt 3 Q e; have := HB.out.2.2; omega)); clear q1 q2 q3 q4)
    | fail)
  all_goals
    go_wp2
    go_ret
    exact ⟨by simp, D, R, T', U2, K, H4.out, rfl, HX.out.2⟩
set_option maxRecDepth 100000 in
set_option maxHeartbeats 8000000 in
theorem zplayN (h : XS w0 w P D R T U K j) (hn : D.nb = K.n) (k N x : Int) (h1 : ¬ k = 1) (h2 : ¬ k = 2) (h3 : ¬ k = 3) (h4 : ¬ k = 4) (h5 : ¬ k = 5) (h6 : ¬ k = 6) (h7 : ¬ k = 7) (h8 : ¬ k = 8) (h9 : ¬ k = 9) (h10 : ¬ k = 10) :
    Calls Tryz.prog 11 #[.pointer (some ⟨P, 0, none⟩), .agg #[.int .i64 k, .int .i64 N, .int .u8 x]] w (PlZ w0 P j K.kb) := by
  have HX : Hid (XS w0 w P D R T U K j ∧ D.nb = K.n) := ⟨h, hn⟩
  have e1 : (k == 1) = false := beq_eq_false_iff_ne.2 h1
  have e2 : (k == 2) = false := beq_eq_false_iff_ne.2 h2
  have e3 : (k == 3) = false := beq_eq_false_iff_ne.2 h3
  have e4 : (k == 4) = false := beq_eq_false_iff_ne.2 h4
  have e5 : (k == 5) = false := beq_eq_false_iff_ne.2 h5
  have e6 : (k == 6) = false := beq_eq_false_iff_ne.2 h6
  have e7 : (k == 7) = false := beq_eq_false_iff_ne.2 h7
  have e8 : (k == 8) = false := beq_eq_false_iff_ne.2 h8
  have e9 : (k == 9) = false := beq_eq_false_iff_ne.2 h9
  have e10 : (k == 10) = false := beq_eq_false_iff_ne.2 h10
  have HB : Hid (∀ o, Below w.heap.size w (w.alloc o)) := fun o => (Below.refl _ _).alloc (Nat.le_refl _) _
  clear h hn h1 h2 h3 h4 h5 h6 h7 h8 h9 h10
  go_enter Tryz.func11, Tryz.ntmps11
  go_wp2
  go_ret
  exact ⟨rfl, D, R, T, U, K, (HX.out.1.on (HB.out _)).up (by omega), rfl, HX.out.2⟩
end Go.Proofs.YtflienghgobmoaaGreatDoor

namespace Go.Proofs.YtflienghgobmoaaGreatDoor
open Go.RowKit Go.Maps Rec
variable {w0 w w1 wx w2 w' : World} {P j j' : Nat} {D D' : Dk} {R R' : RDk} {T T' : Tx} {U U' : RTx} {K K' : Kb}
theorem rs_cut {a : AD} (h : Rs a) (hn : 98 ≤ a.nb) (kp : Nat → Bool) : Rs (a.cut kp) := by
  unfold AD.cut
  rw [AD.settle_fw, h.pen]
  refine ⟨h.len, rfl, (fun e => by cases e), fun _ => ?_⟩
  by_cases hd : a.down = true
  · exact h.dn hd
  · have hd' : a.down = false := by cases e : a.down with | true => exact absurd e hd | false => rfl
    exact ⟨behind a.las a.nb, ⟨h.len, (log_empty hn (h.up hd')).2.2, fun _ _ _ => rfl⟩⟩
set_option maxRecDepth 100000 in
set_option maxHeartbeats 8000000 in
theorem zplay10 (h : XS w0 w P D R T U K j) (hn : D.nb = K.n) (h98 : 98 ≤ K.n) (N x : Int) :
    Calls Tryz.prog 11 #[.pointer (some ⟨P, 0, none⟩), .agg #[.int .i64 10, .int .i64 N, .int .u8 x]] w (PlZ w0 P j K.kb) := by
  have HX : Hid (XS w0 w P D R T U K j ∧ D.nb = K.n ∧ 98 ≤ K.n) := ⟨h, hn, h98⟩
  obtain ⟨Q, hQ⟩ : ∃ Q, w.heap.size = Q := ⟨_, rfl⟩
  obtain ⟨wb, hwb⟩ : ∃ wb, w.alloc (.cells #[.int .i64 10, .int .i64 N, .int .u8 x] 46) = wb := ⟨_, rfl⟩
  have HB : Hid (Below w.heap.size w wb ∧ wb.heap[Q]? = some (.cells #[.int .i64 10, .int .i64 N, .int .u8 x] 46 (0, 0)) ∧ w.heap.size = Q) := by rw [← hwb]; exact ⟨(Below.refl _ _).alloc (Nat.le_refl _) _, by rw [← hQ]; exact heap_alloc_new _ _, hQ⟩
  have HXb : Hid (XS w0 wb P D R T U K j) := h.on HB.out.1
  have b0 : wb.cell? ⟨Q, 0, none⟩ = some (.int .i64 10) := cell_of_row _ _ 0 _ _ _ HB.out.2.1
  have b1 : wb.cell? ⟨Q, 1, none⟩ = some (.int .i64 N) := cell_of_row _ _ 1 _ _ _ HB.out.2.1
  have b2 : wb.cell? ⟨Q, 2, none⟩ = some (.int .u8 x) := cell_of_row _ _ 2 _ _ _ HB.out.2.1
  have c0 := HXb.out.ptrs.1
  have c1 := HXb.out.ptrs.2.1
  have HPM : Hid (∀ wx, XS w0 wx P D R T U K j → Calls Tryz.prog 44 #[.pointer (some ⟨D.d, 0, none⟩), .slice none 0 0] wx fun e w1 => e = .returned (.tuple #[]) ∧ ∃ D', HalfA wx w1 D D' (D.abs.cut (kpOf []))) := fun wx hx => by
    refine (pd_crash wx D hx.ws.d none 0 0 [] ⟨none, 0, rfl, .inl rfl⟩ rfl (by omega) (fun e => absurd rfl e)).mono ?_
    rintro e w1 ⟨rfl, D', h1, h2, h3, h4⟩
    exact ⟨rfl, D', h1, h2, h3, h4⟩
  have HRM : Hid (∀ wx, RT wx D.abs R (200 * j) → Calls Tryz.prog 45 #[.pointer (some ⟨R.r, 0, none⟩), .slice none 0 0] wx fun e w1 => e = .returned (.tuple #[]) ∧ ∃ R', RM wx R w1 (D.abs.cut (kpOf [])) R' (200 * j)) := fun wx ht =>
    ht.crash none 0 0 [] ⟨none, 0, rfl, .inl rfl⟩ rfl (by omega) (fun e => absurd rfl e)
  clear h hn h98
  go_enter Tryz.func11, Tryz.ntmps11
  go_upto_region 1 with fail
  try rw [hwb]
  try rw [hQ]
  clear hwb hQ
  go_wp2_with (first
    | (go_at_call 44; refine (HPM.out _ HXb.out).mono ?_; rintro e w1 ⟨rfl, D', hA⟩; have HA : Hid (HalfA wb w1 D D' (D.abs.cut (kpOf []))) := hA; have hm := HXb.out.mida hA (Below.refl _ _); have c1 := (px_ptrs hm.2).2.1; have HR : Hid (Calls Tryz.prog 45 #[.pointer (some ⟨R.r, 0, none⟩), .slice none 0 0] w1 fun e w2 => e = .returned (.tuple #[]) ∧ ∃ R', RM w1 R w2 (D.abs.cut (kpOf [])) R' (200 * j)) := HRM.out w1 hm.1; clear hA hm)
    | (go_at_call 45; refine HR.out.mono ?_; rintro e w2 ⟨rfl, R', hM⟩; have H3 : Hid (XS w0 w2 P D' R' T U K (j + 1)) := HXb.out.arm HA.out (Below.refl _ _) hM (by rw [keep_cut]; exact HXb.out.ws.kd) (rs_cut HXb.out.rs (by show 98 ≤ D.nb; have h9 := HX.out.2; omega) _); clear hM))
  go_ret
  exact ⟨rfl, D', R', T, U, K, H3.out.up (by omega), rfl, HA.out.mv.nb.trans HX.out.2.1⟩
end Go.Proofs.YtflienghgobmoaaGreatDoor

namespace Go.Proofs.YtflienghgobmoaaGreatDoor
open Go.RowKit Go.Maps Rec
variable {w0 w w1 wx w2 w' : World} {P j j' : Nat} {D D' : Dk} {R R' : RDk} {T T' : Tx} {U U' : RTx} {K K' : Kb}
theorem hidK {p : Prop} (h : p) : Hid p := h
/-- both ended, and new ones begun -/
theorem pnext (h : XS w0 w P D R T U K j) : Calls Tryz.prog 42 #[.pointer (some ⟨T.t, 0, none⟩)] w fun e w1 => e = .returned (.tuple #[]) ∧ (w1.cell? ⟨P, 3, none⟩ = some (.pointer (some ⟨U.u, 0, none⟩))) ∧ Calls Tryz.prog 43 #[.pointer (some ⟨U.u, 0, none⟩)] w1 fun e w2 => e = .returned (.tuple #[]) ∧ Calls Tryz.prog 10 #[.pointer (some ⟨P, 0, none⟩)] w2 fun e w3 => e = .returned (.bool true) ∧ ∃ T U, XS w0 w3 P D R T U K j := by
  refine (pabort h).mono ?_
  rintro e w1 ⟨rfl, h1, h2⟩
  refine ⟨rfl, h1, h2.mono ?_⟩
  rintro e w2 ⟨rfl, h3⟩
  exact ⟨rfl, begins_any h3.base rfl rfl⟩
set_option maxRecDepth 100000 in
set_option maxHeartbeats 8000000 in
theorem zplay8 (h : XS w0 w P D R T U K j) (hn : D.nb = K.n) (hT : TabAt w0) (hj : 200 * j + 200 ≤ 1000000000) (N x : Int) :
    Calls Tryz.prog 11 #[.pointer (some ⟨P, 0, none⟩), .agg #[.int .i64 8, .int .i64 N, .int .u8 x]] w (PlZ w0 P j K.kb) := by
  have HX : Hid (XS w0 w P D R T U K j ∧ D.nb = K.n) := ⟨h, hn⟩
  obtain ⟨Q, hQ⟩ : ∃ Q, w.heap.size = Q := ⟨_, rfl⟩
  obtain ⟨wb, hwb⟩ : ∃ wb, w.alloc (.cells #[.int .i64 8, .int .i64 N, .int .u8 x] 46) = wb := ⟨_, rfl⟩
  have HB : Hid (Below w.heap.size w wb ∧ wb.heap[Q]? = some (.cells #[.int .i64 8, .int .i64 N, .int .u8 x] 46 (0, 0)) ∧ w.heap.size = Q) := by rw [← hwb]; exact ⟨(Below.refl _ _).alloc (Nat.le_refl _) _, by rw [← hQ]; exact heap_alloc_new _ _, hQ⟩
  have HXb : Hid (XS w0 wb P D R T U K j) := h.on HB.out.1
  have b0 : wb.cell? ⟨Q, 0, none⟩ = some (.int .i64 8) := cell_of_row _ _ 0 _ _ _ HB.out.2.1
  have b2 : wb.cell? ⟨Q, 2, none⟩ = some (.int .u8 x) := cell_of_row _ _ 2 _ _ _ HB.out.2.1
  have c2 := HXb.out.ptrs.2.2.1
  have c3 := HXb.out.ptrs.2.2.2
  have HPM : Hid (∀ wx, XS w0 wx P D R T U K j → Calls Tryz.prog 40 #[.pointer (some ⟨T.t, 0, none⟩)] wx fun e w1 => e = .returned (.int .i64 (rcE6 D.abs U)) ∧ ∃ D', HalfC wx w1 D T U D') := fun wx hx => half_commit hx hT hj
  have HOk : Hid (wl U.row D.abs.nb = [] ∨ U.ends = true ∨ ComOk R.nb (wl U.row D.abs.nb) (vls U.row D.abs.nb)) := by
    have hnb : D.abs.nb = R.nb := h.ws.t.tie.nb
    cases hen : U.ends with
    | true => exact .inr (.inl rfl)
    | false =>
      rcases comok6 h hen with e | e
      · exact .inl e
      · exact .inr (.inr (by rw [← hnb]; exact e))
  have HJ : Hid (200 * j + 200 ≤ 1000000000) := hj
  clear h hn hj
  go_enter Tryz.func11, Tryz.ntmps11
  go_upto_region 1 with fail
  try rw [hwb]
  try rw [hQ]
  clear hwb hQ
  go_upto_region 25 with fail
  have HBd : Hid (XS w0 wb.drew P D R T U K j) := HXb.out.on (Below.refl _ _).drew
  cases hev : (x.tmod 2 == 0) with
  | false =>
    go_quiet (fail)
    have HN : Hid (∀ wx, XS w0 wx P D R T U K j → Calls Tryz.prog 42 #[.pointer (some ⟨T.t, 0, none⟩)] wx fun e w1 => e = .returned (.tuple #[]) ∧ (w1.cell? ⟨P, 3, none⟩ = some (.pointer (some ⟨U.u, 0, none⟩))) ∧ Calls Tryz.prog 43 #[.pointer (some ⟨U.u, 0, none⟩)] w1 fun e w2 => e = .returned (.tuple #[]) ∧ Calls Tryz.prog 10 #[.pointer (some ⟨P, 0, none⟩)] w2 fun e w3 => e = .returned (.bool true) ∧ ∃ T U, XS w0 w3 P D R T U K j) := fun wx hx => pnext hx
    all_goals
      go_wp2_with (first
        | (go_at_call 42; refine (HN.out _ (by first | exact HBd.out | exact HXb.out | exact HXb.out.on (drewN_below _ _))).mono ?_; rintro e w1 ⟨rfl, h1, h2⟩; have HR := hidK h2; clear h2)
        | (go_at_call 43; refine HR.out.mono ?_; rintro e w2 ⟨rfl, h2⟩; have HG := hidK h2; clear h2)
        | (go_at_call 10; refine HG.out.mono ?_; rintro e w3 ⟨rfl, T1, U1, h2⟩; have H3 := hidK h2; clear h2))
      go_ret
      exact ⟨rfl, D, R, T1, U1, K, H3.out.up (by omega), rfl, HX.out.2⟩
  | true =>
    have hS0 : wb.drew.cell? ⟨P, 2, none⟩ = some (.pointer (some ⟨T.t, 0, none⟩)) ∧ wb.drew.cell? ⟨P, 3, none⟩ = some (.pointer (some ⟨U.u, 0, none⟩)) ∧ wb.drew.cell? ⟨Q, 2, none⟩ = some (.int .u8 x) := ⟨c2, c3, b2⟩
    have HQ : Hid (wb.drew.heap[Q]? = some (.cells #[.int .i64 8, .int .i64 N, .int .u8 x] 46 (0, 0))) := ((Below.refl wb.heap.size wb).drew.block Q (heap_lt HB.out.2.1)).trans HB.out.2.1
    obtain ⟨E, hE⟩ : ∃ E, rcE6 D.abs U = E := ⟨_, rfl⟩
    have HE : Hid (rcE6 D.abs U = E) := hE
    rw [hE] at HPM
    clear hE
    go_region_held3 (fun w' => w'.cell? ⟨P, 2, none⟩ = some (.pointer (some ⟨T.t, 0, none⟩)) ∧ w'.cell? ⟨P, 3, none⟩ = some (.pointer (some ⟨U.u, 0, none⟩)) ∧ w'.cell? ⟨Q, 2, none⟩ = some (.int .u8 x)) (first | exact hS0 | exact hS1 | exact hS2 | go_keep)
      (first
        | (go_at_call 40; refine (HPM.out _ HBd.out).mono ?_; rintro e w1 ⟨rfl, D', hC⟩
           have H1 : Hid (HalfC wb.drew w1 D T U D' ∧ w1.heap[Q]? = some (.cells #[.int .i64 8, .int .i64 N, .int .u8 x] 46 (0, 0))) := ⟨hC, hC.fr.heap HQ.out (fun e => by
             have h5 := HB.out.2.2
             rcases e with e | e
             · have := HX.out.1.lt 0 Q e; omega
             · have : T.t < w.heap.size := HX.out.1.lt 2 T.t (.inl (.inl rfl)); omega)⟩
           have hm := HBd.out.midc hC (Below.refl _ _)
           have hS1 : w1.cell? ⟨P, 2, none⟩ = some (.pointer (some ⟨T.t, 0, none⟩)) ∧ w1.cell? ⟨P, 3, none⟩ = some (.pointer (some ⟨U.u, 0, none⟩)) ∧ w1.cell? ⟨Q, 2, none⟩ = some (.int .u8 x) := ⟨(px_ptrs hm.2.2).2.2.1, (px_ptrs hm.2.2).2.2.2, cell_of_row _ _ 2 _ _ _ H1.out.2⟩
           have HR : Hid (Calls Tryz.prog 41 #[.pointer (some ⟨U.u, 0, none⟩)] w1 fun e w' => e = .returned (.int .i64 E) ∧ ∃ R', RcX w1 R U w' (rcA6 D.abs U) R' (200 * j + 198)) := (by
             have hap : ∀ k, U.all k → ¬ R.all k := fun k e e2 => HX.out.1.sep.ne (i := 3) (j := 1) (by omega) e e2
             rw [← HE.out]
             exact rxcommit_all w1 D.abs R (200 * j) hm.2.1 U hm.1 HX.out.1.ur hap HOk.out (by have := HJ.out; omega))
           clear hC hm)
        | (go_at_call 41; refine HR.out.mono ?_; rintro e w2 ⟨rfl, R', hR⟩
           have H3 : Hid (XS w0 w2 P D' R' T { U with ends := true } K (j + 1)) := HBd.out.com H1.out.1 (Below.refl _ _) hR
           have hS2 : w2.cell? ⟨P, 2, none⟩ = some (.pointer (some ⟨T.t, 0, none⟩)) ∧ w2.cell? ⟨P, 3, none⟩ = some (.pointer (some ⟨U.u, 0, none⟩)) ∧ w2.cell? ⟨Q, 2, none⟩ = some (.int .u8 x) := ⟨H3.out.ptrs.2.2.1, H3.out.ptrs.2.2.2, cell_of_row _ _ 2 _ _ _ (hR.fr.heap H1.out.2 (fun e => by
             have h5 := HB.out.2.2
             rcases e with e | e
             · have := HX.out.1.lt 1 Q e; omega
             · have : U.u < w.heap.size := HX.out.1.lt 3 U.u (.inl rfl); omega))⟩
           clear hR))
    have HN := hidK (pnext H3.out)
    clear hS0 hS1 b2 c2 c3
    obtain ⟨c2, c3, b2⟩ := hS2
    go_wp2_with (first
      | (go_at_call 42; refine HN.out.mono ?_; rintro e w3 ⟨rfl, h1, h2⟩; have HR3 := hidK h2; clear h2)
      | (go_at_call 43; refine HR3.out.mono ?_; rintro e w4 ⟨rfl, h2⟩; have HG := hidK h2; clear h2)
      | (go_at_call 10; refine HG.out.mono ?_; rintro e w5 ⟨rfl, T1, U1, h2⟩; have H5 := hidK h2; clear h2))
    go_ret
    exact ⟨rfl, D', R', T1, U1, K, H5.out.up (by omega), rfl, H1.out.1.nb.trans HX.out.2⟩
end Go.Proofs.YtflienghgobmoaaGreatDoor

namespace Go.Proofs.YtflienghgobmoaaGreatDoor
open Go.RowKit Go.Maps Rec
variable {w0 w w1 wx w2 w' : World} {P j j' : Nat} {D D' : Dk} {R R' : RDk} {T T' : Tx} {U U' : RTx} {K K' : Kb}
/-- a step of any kind -/
theorem zplay_any (h : XS w0 w P D R T U K j) (hn : D.nb = K.n) (h98 : 98 ≤ K.n) (hT : TabAt w0) (hj : j + 2 ≤ 1000000) (k N x : Int) (hN : -9223372036854775808 ≤ N ∧ N ≤ 9223372036854775807) (hx : 0 ≤ x ∧ x < 256) :
    Calls Tryz.prog 11 #[.pointer (some ⟨P, 0, none⟩), .agg #[.int .i64 k, .int .i64 N, .int .u8 x]] w (PlZ w0 P j K.kb) := by
  have hl := h.ul
  by_cases h1 : k = 1
  · subst h1; exact zplay1 h hn (by omega) N x
  by_cases h2 : k = 2
  · subst h2; exact zplay2 h hn (by omega) N x
  by_cases h3 : k = 3
  · subst h3; exact zplay3 h hn (by omega) N x hN
  by_cases h4 : k = 4
  · subst h4; exact zplay4 h hn (by omega) N x
  by_cases h5 : k = 5
  · subst h5; exact zplay5 h hn N x
  by_cases h6 : k = 6
  · subst h6; exact zplay6 h hn N x hx (by omega)
  by_cases h7 : k = 7
  · subst h7; exact zplay7 h hn N x
  by_cases h8 : k = 8
  · subst h8; exact zplay8 h hn hT (by omega) N x
  by_cases h9 : k = 9
  · subst h9; exact zplay9 h hn N x
  by_cases h10 : k = 10
  · subst h10; exact zplay10 h hn h98 N x
  exact zplayN h hn k N x h1 h2 h3 h4 h5 h6 h7 h8 h9 h10
end Go.Proofs.YtflienghgobmoaaGreatDoor

namespace Go.Proofs.YtflienghgobmoaaGreatDoor
open Go.RowKit Go.Maps Rec

/-- how many blocks a case has -/
def nBl (N : Int) : Nat := if N % 200 < 180 then 128 + (N % 200).toNat else if N % 200 < 190 then 4096 + (N % 200).toNat - 185 else 8192 + (N % 200).toNat - 195
theorem nBl_bd (N : Int) : 128 ≤ nBl N ∧ nBl N ≤ 8197 := by unfold nBl; split <;> (try split) <;> omega
/-- a case -/
def csV (N : Int) (bits : Value) (rest : Int) (sc : Value) : Value := .agg #[.int .i64 N, bits, .int .u8 rest, sc]
set_option maxRecDepth 100000 in
set_option maxHeartbeats 4000000 in
theorem blocks9 (w : World) (N : Int) (_ : -9223372036854775808 ≤ N ∧ N ≤ 9223372036854775807) (ba : Option Addr) (bl bc : Nat) (rest : Int) (sa : Option Addr) (sl sc : Nat) :
    Calls Tryz.prog 9 #[csV N (.slice ba bl bc) rest (.slice sa sl sc)] w fun e w' => e = .returned (.int .i64 (nBl N : Nat)) ∧ Below w.heap.size w w' := by
  have HM : Hid (∀ wx, Calls Tryz.prog 21 #[.int .i64 N, .int .i64 200] wx fun e w' => e = .returned (.int .i64 (N % 200)) ∧ wx = w') := fun wx => mod_any wx N 200 (by omega) (by omega)
  have HA : Hid (∀ o, Below w.heap.size w (w.alloc o)) := fun o => (Below.refl _ _).alloc (Nat.le_refl _) o
  obtain ⟨r, hr⟩ : ∃ r : Nat, N % 200 = (r : Int) := ⟨(N % 200).toNat, by omega⟩
  have hrb : r < 200 := by omega
  have hnb : nBl N = if r < 180 then 128 + r else if r < 190 then 4096 + r - 185 else 8192 + r - 195 := by
    unfold nBl
    rw [hr]
    simp only [Int.toNat_natCast]
    by_cases h1 : r < 180
    · rw [if_pos h1, if_pos (by omega)]
    · rw [if_neg h1, if_neg (by omega)]
      by_cases h2 : r < 190
      · rw [if_pos h2, if_pos (by omega)]
      · rw [if_neg h2, if_neg (by omega)]
  rw [hr] at HM
  rw [hnb]
  clear hr hnb
  unfold csV
  go_enter Tryz.func9, Tryz.ntmps9
  by_cases h1 : r < 180
  · rw [if_pos h1]
    go_wp2_with (go_at_call 21; refine (HM.out _).mono ?_; rintro e w' ⟨rfl, rfl⟩; clear HM)
    go_ret
    exact ⟨by simp, HA.out _⟩
  · rw [if_neg h1]
    by_cases h2 : r < 190
    · rw [if_pos h2]
      go_wp2_with (go_at_call 21; refine (HM.out _).mono ?_; rintro e w' ⟨rfl, rfl⟩; clear HM)
      go_ret
      exact ⟨by congr 2; simp; omega, HA.out _⟩
    · rw [if_neg h2]
      go_wp2_with (go_at_call 21; refine (HM.out _).mono ?_; rintro e w' ⟨rfl, rfl⟩; clear HM)
      go_ret
      exact ⟨by congr 2; simp; omega, HA.out _⟩
set_option maxRecDepth 100000 in
set_option maxHeartbeats 4000000 in
theorem geo9 (w : World) (n : Nat) (h0 : 128 ≤ n) (h1 : n ≤ 16384) :
    Calls Tryz.prog 8 #[.int .i64 (n : Int)] w fun e w' => e = .returned (geoV n) ∧ Below w.heap.size w w' := by
  have e1 : (n : Int) + 4096 - 1 = ((n + 4095 : Nat) : Int) := by omega
  go_enter Tryz.func8, Tryz.ntmps8
  go_wp2
  refine bodyPost_ret (v := geoV n) (res_row9 rfl _ _ w.heap.size #[.int .i64 (n : Int), .int .i64 98, .int .i64 (gI n), .int .i64 (gD n), .int .i64 (gC n)] rfl (by simp [go_sem, gI, gD, gC, Int.mul_comm])) rfl ?_
  exact ⟨rfl, (Below.refl _ _).alloc (Nat.le_refl _) _⟩
/-- is bit i of a case's bitmap on? -/
def fB (n : Nat) (bits : List Int) (rest : Int) (i : Nat) : Bool := decide (i < nD n ∨ n ≤ i) || ((if (i - nD n) / 8 < bits.length then nth bits ((i - nD n) / 8) else rest) / 2 ^ ((i - nD n) % 8) % 2 == 1)
/-- a case's image -/
structure Img (l : List Int) (n : Nat) (f : Nat → Bool) : Prop where
  len : l.length = 512 * n
  wf : ∀ j, 0 ≤ nth l j ∧ nth l j < 256
  top : ∀ p, 512 * nD n ≤ p → p < 512 * n → nth l p = 7
  bit : ∀ i, i < 4096 * nM n → bn l (401408 + i) = if f i then 1 else 0
  low : ∀ p, p < 50176 → nth l p = 0
/-- between the rounds of the second loop -/
structure Im2 (l : List Int) (n : Nat) (f : Nat → Bool) (i : Nat) : Prop where
  len : l.length = 512 * n
  top : ∀ p, 512 * nD n ≤ p → p < 512 * n → nth l p = 7
  bit : ∀ j, j < 4096 * nM n → bn l (401408 + j) = if j < i ∧ f j = true then 1 else 0
  low : ∀ p, p < 50176 → nth l p = 0
theorem Im2.skip {l : List Int} {n : Nat} {f : Nat → Bool} {i : Nat} (h : Im2 l n f i) (hf : f i = false) : Im2 l n f (i + 1) := by
  refine ⟨h.len, h.top, fun j hj => ?_, h.low⟩
  rw [h.bit j hj]
  by_cases e : j = i
  · subst e; simp [hf]
  · by_cases e2 : j < i
    · simp [e2, Nat.lt_succ_of_lt e2]
    · rw [if_neg (fun x => e2 x.1), if_neg (fun x => by omega)]
theorem Im2.put {l : List Int} {n : Nat} {f : Nat → Bool} {i : Nat} (h : Im2 l n f i) (hl : ∀ i, 0 ≤ nth l i ∧ nth l i < 256) (hf : f i = true) (h0 : 128 ≤ n) (h1 : n ≤ 16384) (hi : i < 4096 * nM n) : Im2 (bput l (401408 + i) true) n f (i + 1) := by
  have hN := nM_bd h0 h1
  have hlen := h.len
  refine ⟨by rw [bput_length, h.len], fun p h2 h3 => ?_, fun j hj => ?_, fun p hp => by rw [bput, nth_set _ _ _ _ (by omega), if_neg (by omega), h.low p hp]⟩
  · rw [bput, nth_set _ _ _ _ (by omega), if_neg (by omega), h.top p h2 h3]
  · rw [bn_bput l _ _ true hl (by omega), h.bit j hj]
    by_cases e : j = i
    · subst e; simp [hf]
    · rw [if_neg (by omega)]
      by_cases e2 : j < i
      · simp [e2, Nat.lt_succ_of_lt e2]
      · rw [if_neg (fun x => e2 x.1), if_neg (fun x => by omega)]
theorem im2_start {l : List Int} {n : Nat} (f : Nat → Bool) (h0 : 128 ≤ n) (h1 : n ≤ 16384) (hl : l.length = 512 * n) (hv : ∀ p, p < 512 * n → nth l p = if 512 * nD n ≤ p then 7 else 0) : Im2 l n f 0 := by
  have hN := nM_bd h0 h1
  refine ⟨hl, fun p h2 h3 => by rw [hv p h3, if_pos h2], fun j hj => ?_, fun p hp => by rw [hv p (by omega), if_neg (by omega)]⟩
  rw [if_neg (fun x => by omega), bn, hv _ (by omega), if_neg (by omega)]
  simp
end Go.Proofs.YtflienghgobmoaaGreatDoor

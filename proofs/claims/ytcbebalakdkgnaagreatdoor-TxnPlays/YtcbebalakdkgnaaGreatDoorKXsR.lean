import Derived.Test.YtcbebalakdkgnaaGreatDoorKXsO
namespace Go.Proofs.YtcbebalakdkgnaaGreatDoor
open Go.RowKit Rec
variable {w0 w w1 wx w2 w' : World} {P j j' : Nat} {D D' : Dk} {R R' : RDk} {T T' : Tx} {U U' : RTx} {K K' : Kb} {row' : List Dn}
theorem back_len (h : XS w0 w P D R T U K j) (i : Int) : (if rbE U i = 0 then U.row.take i.toNat else U.row).length ≤ j + 1 := by
  have := h.ul
  split
  · rw [List.length_take]; omega
  · omega
set_option maxRecDepth 100000 in
set_option maxHeartbeats 8000000 in
theorem xplay5 (h : XS w0 w P D R T U K j) (n x : Int) (ba ka : Option Addr) (bn bc kn kc : Nat) :
    Calls Tryz.prog 8 #[.pointer (some ⟨P, 0, none⟩), .agg #[.int .i64 5, .int .i64 n, .int .u8 x, .slice ba bn bc, .slice ka kn kc], .pointer (some ⟨K.kb, 0, none⟩)] w (PlP w0 P j K.kb) := by
  have HX : Hid (XS w0 w P D R T U K j) := h
  have HPM : Hid (∀ wx, Below w.heap.size w wx → Calls Tryz.prog 23 #[.pointer (some ⟨T.t, 0, none⟩), .int .i64 n] wx fun e w1 => e = .returned (.int .i64 (rbE U n)) ∧ ∃ T', HalfT wx w1 T T' U D (if rbE U n = 0 then U.row.take n.toNat else U.row)) := fun wx hb => half_back (h.on hb) n
  have HC : Hid (∀ wx, Below w.heap.size w wx → wx.cell? ⟨P, 2, none⟩ = some (.pointer (some ⟨T.t, 0, none⟩)) ∧ wx.cell? ⟨P, 3, none⟩ = some (.pointer (some ⟨U.u, 0, none⟩))) := fun wx hb => (h.on hb).ptrs.2.2
  have HL := back_len h n
  clear h
  go_enter Tryz.func8, Tryz.ntmps8
  go_upto_region 1 with fail
  obtain ⟨Q, hQ⟩ : ∃ Q, w.heap.size = Q := ⟨_, rfl⟩
  obtain ⟨wb, hwb⟩ : ∃ wb, w.alloc (.cells #[.int .i64 5, .int .i64 n, .int .u8 x, .slice ba bn bc, .slice ka kn kc] 45) = wb := ⟨_, rfl⟩
  have HB : Hid (Below w.heap.size w wb ∧ w.heap.size = Q) := ⟨by rw [← hwb]; exact (Below.refl _ _).alloc (Nat.le_refl _) _, hQ⟩
  have b0 : wb.cell? ⟨Q, 0, none⟩ = some (.int .i64 5) := by rw [← hwb, ← hQ]; exact box_at (Below.refl _ _) 0
  have b1 : wb.cell? ⟨Q, 1, none⟩ = some (.int .i64 n) := by rw [← hwb, ← hQ]; exact box_at (Below.refl _ _) 1
  obtain ⟨c2, c3⟩ := HC.out wb HB.out.1
  rw [hwb, hQ]
  clear hwb hQ
  go_upto_region 9 with fail
  have hS0 : wb.drew.cell? ⟨P, 2, none⟩ = some (.pointer (some ⟨T.t, 0, none⟩)) ∧ wb.drew.cell? ⟨P, 3, none⟩ = some (.pointer (some ⟨U.u, 0, none⟩)) ∧ wb.drew.cell? ⟨Q, 1, none⟩ = some (.int .i64 n) := ⟨c2, c3, b1⟩
  have HBd : Hid (Below w.heap.size w wb.drew) := HB.out.1.drew
  have TK0 : Hid True := trivial
  obtain ⟨E, hE⟩ : ∃ E, rbE U n = E := ⟨_, rfl⟩
  have HE : Hid (rbE U n = E) := hE
  rw [hE] at HPM
  clear hE
  go_region_held3 (fun w' => w'.cell? ⟨P, 2, none⟩ = some (.pointer (some ⟨T.t, 0, none⟩)) ∧ w'.cell? ⟨P, 3, none⟩ = some (.pointer (some ⟨U.u, 0, none⟩)) ∧ w'.cell? ⟨Q, 1, none⟩ = some (.int .i64 n)) (first | exact hS0 | exact hS1 | exact hS2 | go_keep)
    (first
      | (go_at_call 23; refine (HPM.out _ HBd.out).mono ?_; rintro e w1 ⟨rfl, T', hT⟩
         have H1 : Hid (HalfT wb.drew w1 T T' U D (if E = 0 then U.row.take n.toNat else U.row)) := hT
         have hm := (HX.out.on HBd.out).midw hT (Below.refl _ _)
         have hS1 : w1.cell? ⟨P, 2, none⟩ = some (.pointer (some ⟨T.t, 0, none⟩)) ∧ w1.cell? ⟨P, 3, none⟩ = some (.pointer (some ⟨U.u, 0, none⟩)) ∧ w1.cell? ⟨Q, 1, none⟩ = some (.int .i64 n) := ⟨(px_ptrs hm.2.2).2.2.1, (px_ptrs hm.2.2).2.2.2, hT.mv.cell hS0.2.2 (fun e => by have h1 := HX.out.lt 2 _ e; have h2 := HB.out.2; simp only at h1; omega)⟩
         have HR : Hid (Calls Tryz.prog 24 #[.pointer (some ⟨U.u, 0, none⟩), .int .i64 n] w1 fun e w' => e = .returned (.int .i64 E) ∧ ∃ U', RTxAt w' U' ∧ UMv w1 U w' U' ∧ U'.ends = U.ends ∧ U'.row = if E = 0 then U.row.take n.toNat else U.row) := (by have := rxback_any w1 U hm.1 n; rw [HE.out] at this; exact this)
         clear hT hm)
      | (go_at_call 24; refine HR.out.mono ?_; rintro e w2 ⟨rfl, U', h1, h2, h3, h4⟩
         have H2 : Hid (RTxAt w2 U' ∧ UMv w1 U w2 U' ∧ U'.ends = U.ends ∧ U'.row = if E = 0 then U.row.take n.toNat else U.row) := ⟨h1, h2, h3, h4⟩
         have H3 : Hid (XS w0 w2 P D R T' U' K (j + 1)) := (HX.out.on HBd.out).half H1.out (Below.refl _ _) h1 h2 h3 h4 (by rw [← HE.out]; exact HL) (by omega)
         have hS2 : w2.cell? ⟨P, 2, none⟩ = some (.pointer (some ⟨T.t, 0, none⟩)) ∧ w2.cell? ⟨P, 3, none⟩ = some (.pointer (some ⟨U.u, 0, none⟩)) ∧ w2.cell? ⟨Q, 1, none⟩ = some (.int .i64 n) := ⟨(by rw [H3.out.ptrs.2.2.1, H1.out.t]), (by rw [H3.out.ptrs.2.2.2, h2.u]), h2.fr.cell hS1.2.2 (fun e => by have h8 : Q < w.heap.size := HX.out.lt 3 _ e; have h5 := HB.out.2; omega)⟩
         clear h1 h2 h3 h4))
  go_wp2
  go_ret
  exact ⟨rfl, D, R, T', U', K, H3.out, rfl⟩
/-- over on both sides -/
theorem XS.fin (h : XS w0 w P D R T U K j) (h1 : OverAt w1 T.t) (f : Fr (fun k => k = T.t) w w1) (hx : Below w1.heap.size w1 wx) (hU : RTxAt w2 { U with ends := true }) (hm : UMv wx U w2 { U with ends := true }) (hj : j ≤ j') : XS w0 w2 P D R T { U with ends := true } K j' := by
  have hs1 := f.size
  have hs2 := hx.size
  have ht2 : T.all T.t := .inl (.inl rfl)
  have hne : ¬ U.all T.t := h.sep.ne (i := 2) (j := 3) (by omega) ht2
  have f2 : Fr U.all w1 w2 := (below_fr hx U.all).trans hm.fr (fun k e => .inl e)
  have hF := (f.mono (T := fun k => T.all k ∨ U.all k) (fun k e => .inl (by subst e; exact ht2))).trans f2 (fun k e => .inl (.inr e))
  refine h.tu (j' := j') hF ⟨fun e => (by cases e), fun _ => f2.heap h1 hne, fun k hk => Nat.lt_of_lt_of_le (h.tp.lt k hk) hF.size⟩ hU (Nat.le_trans h.ul hj) hj rfl rfl rfl (fun k e => .inl e) (fun k e => .inl e) (fun k hk e _ => ?_)
  have := h.tp.lt k e; omega
theorem XS.rowT (h : XS w0 w P D R T U K j) : ∃ cs : Array Value, cs.size = 4 ∧ w.heap[T.t]? = some (.cells cs 76 (0, 0)) := by
  cases hen : U.ends with
  | true => exact ⟨_, rfl, h.tp.over hen⟩
  | false => exact ⟨_, rfl, (h.tp.live hen).1.row⟩
set_option maxRecDepth 100000 in
set_option maxHeartbeats 8000000 in
/-- lists, of no list -/
theorem xlists_no (w : World) (p0 p2 : Value) (k n x : Int) (ba ka : Option Addr) (bn bc kn kc : Nat) (h1 : ¬ k = 1) (h3 : ¬ k = 3) : Calls Tryz.prog 12 #[p0, .agg #[.int .i64 k, .int .i64 n, .int .u8 x, .slice ba bn bc, .slice ka kn kc], p2] w fun e w' => e = .returned (.bool true) ∧ Below w.heap.size w w' := by
  have HB : Hid (∀ o, Below w.heap.size w (w.alloc o)) := fun o => (Below.refl _ _).alloc (Nat.le_refl _) _
  have e1 : (k == 1) = false := beq_eq_false_iff_ne.2 h1
  have e3 : (k == 3) = false := beq_eq_false_iff_ne.2 h3
  go_enter Tryz.func12, Tryz.ntmps12
  go_wp2
  go_ret
  exact ⟨rfl, HB.out _⟩
set_option maxRecDepth 100000 in
set_option maxHeartbeats 8000000 in
theorem xplay7 (h : XS w0 w P D R T U K j) (n x : Int) (ba ka : Option Addr) (bn bc kn kc : Nat) :
    Calls Tryz.prog 8 #[.pointer (some ⟨P, 0, none⟩), .agg #[.int .i64 7, .int .i64 n, .int .u8 x, .slice ba bn bc, .slice ka kn kc], .pointer (some ⟨K.kb, 0, none⟩)] w (PlP w0 P j K.kb) := by
  have HX : Hid (XS w0 w P D R T U K j) := h
  have HC : Hid (∀ wx, Below w.heap.size w wx → wx.cell? ⟨P, 2, none⟩ = some (.pointer (some ⟨T.t, 0, none⟩)) ∧ wx.cell? ⟨P, 3, none⟩ = some (.pointer (some ⟨U.u, 0, none⟩))) := fun wx hb => (h.on hb).ptrs.2.2
  have HA : Hid (∀ wx, Below w.heap.size w wx → Calls Tryz.prog 27 #[.pointer (some ⟨T.t, 0, none⟩)] wx fun e w' => e = .returned (.tuple #[]) ∧ OverAt w' T.t ∧ Fr (fun k => k = T.t) wx w') := fun wx hb => by
    obtain ⟨cs, h4, hr⟩ := (h.on hb).rowT
    exact abort_any wx T.t cs h4 hr
  clear h
  go_enter Tryz.func8, Tryz.ntmps8
  go_upto_region 1 with fail
  obtain ⟨Q, hQ⟩ : ∃ Q, w.heap.size = Q := ⟨_, rfl⟩
  obtain ⟨wb, hwb⟩ : ∃ wb, w.alloc (.cells #[.int .i64 7, .int .i64 n, .int .u8 x, .slice ba bn bc, .slice ka kn kc] 45) = wb := ⟨_, rfl⟩
  have HB : Hid (Below w.heap.size w wb ∧ w.heap.size = Q) := ⟨by rw [← hwb]; exact (Below.refl _ _).alloc (Nat.le_refl _) _, hQ⟩
  have hbox : wb.heap[Q]? = some (.cells #[.int .i64 7, .int .i64 n, .int .u8 x, .slice ba bn bc, .slice ka kn kc] 45 (0, 0)) := by rw [← hwb, ← hQ]; exact heap_alloc_new _ _
  have HQ0 : Hid (wb.heap[Q]? = some (.cells #[.int .i64 7, .int .i64 n, .int .u8 x, .slice ba bn bc, .slice ka kn kc] 45 (0, 0))) := hbox
  have b0 : wb.cell? ⟨Q, 0, none⟩ = some (.int .i64 7) := cell_of_row _ _ 0 _ _ _ hbox
  clear hbox
  obtain ⟨c2, c3⟩ := HC.out wb HB.out.1
  rw [hwb, hQ]
  clear hwb hQ
  go_wp2_with (first
    | (go_at_call 27; refine (HA.out wb HB.out.1).mono ?_; rintro e w1 ⟨rfl, h1, h2⟩
       have H1 : Hid (OverAt w1 T.t ∧ Fr (fun k => k = T.t) wb w1) := ⟨h1, h2⟩
       have hneP : ¬ P = T.t := fun e => (HX.out.on HB.out.1).sep.ne (i := 5) (j := 2) (by omega) (k := P) rfl (e ▸ .inl (.inl rfl))
       have c3 : w1.cell? ⟨P, 3, none⟩ = some (.pointer (some ⟨U.u, 0, none⟩)) := h2.cell c3 hneP
       have HR : Hid (Calls Tryz.prog 28 #[.pointer (some ⟨U.u, 0, none⟩)] w1 fun e w' => e = .returned (.tuple #[]) ∧ RTxAt w' { U with ends := true } ∧ UMv w1 U w' { U with ends := true }) := rxabort_any w1 U ((HX.out.on HB.out.1).ux.fr h2 (fun k e e2 => (HX.out.on HB.out.1).sep.ne (i := 3) (j := 2) (by omega) e (e2 ▸ .inl (.inl rfl))))
       clear h1 h2 hneP)
    | (go_at_call 28; refine HR.out.mono ?_; rintro e w2 ⟨rfl, h1, h2⟩
       have H3 : Hid (XS w0 w2 P D R T { U with ends := true } K (j + 1)) := (HX.out.on HB.out.1).fin H1.out.1 H1.out.2 (Below.refl _ _) h1 h2 (by omega)
       have hbox : w2.heap[Q]? = some (.cells #[.int .i64 7, .int .i64 n, .int .u8 x, .slice ba bn bc, .slice ka kn kc] 45 (0, 0)) := h2.fr.heap (H1.out.2.heap HQ0.out (fun e => by have h5 := HX.out.lt 2 Q (e ▸ .inl (.inl rfl)); have h6 := HB.out.2; omega)) (fun e => by have h5 := HX.out.lt 3 Q e; have h6 := HB.out.2; omega)
       have b0 : w2.cell? ⟨Q, 0, none⟩ = some (.int .i64 7) := cell_of_row _ _ 0 _ _ _ hbox
       have b1 : w2.cell? ⟨Q, 1, none⟩ = some (.int .i64 n) := cell_of_row _ _ 1 _ _ _ hbox
       have b2 : w2.cell? ⟨Q, 2, none⟩ = some (.int .u8 x) := cell_of_row _ _ 2 _ _ _ hbox
       have b3 : w2.cell? ⟨Q, 3, none⟩ = some (.slice ba bn bc) := cell_of_row _ _ 3 _ _ _ hbox
       have b4 : w2.cell? ⟨Q, 4, none⟩ = some (.slice ka kn kc) := cell_of_row _ _ 4 _ _ _ hbox
       clear h1 h2 hbox)
    | (go_at_call 12; refine (xlists_no w2 _ _ 7 n x ba ka bn bc kn kc (by decide) (by decide)).mono ?_; rintro e w3 ⟨rfl, hb⟩; have H4 : Hid (XS w0 w3 P D R T { U with ends := true } K (j + 1)) := H3.out.on hb; clear hb))
  go_ret
  exact ⟨rfl, D, R, T, _, K, H4.out, rfl⟩
end Go.Proofs.YtcbebalakdkgnaaGreatDoor
namespace Go.Proofs.YtcbebalakdkgnaaGreatDoor
open Go.RowKit Rec
variable {w0 w w1 wx w2 w' : World} {P j j' : Nat} {D D' : Dk} {R R' : RDk} {T T' : Tx} {U U' : RTx} {K K' : Kb} {row' : List Dn}
theorem pover (h : XS w0 w P D R T U K j) : Calls Tryz.prog 11 #[.pointer (some ⟨T.t, 0, none⟩)] w fun e w' => e = .returned (.bool U.ends) ∧ w = w' := by
  cases hen : U.ends with
  | true => exact over_yes w T.t (h.tp.over hen)
  | false => exact over_no w T (h.tp.live hen).1
set_option maxRecDepth 100000 in
set_option maxHeartbeats 8000000 in
theorem xplay8 (h : XS w0 w P D R T U K j) (n x : Int) (ba ka : Option Addr) (bn bc kn kc : Nat) :
    Calls Tryz.prog 8 #[.pointer (some ⟨P, 0, none⟩), .agg #[.int .i64 8, .int .i64 n, .int .u8 x, .slice ba bn bc, .slice ka kn kc], .pointer (some ⟨K.kb, 0, none⟩)] w (PlP w0 P j K.kb) := by
  have HX : Hid (XS w0 w P D R T U K j) := h
  have HPM : Hid (∀ wx, Below w.heap.size w wx → Calls Tryz.prog 11 #[.pointer (some ⟨T.t, 0, none⟩)] wx fun e w' => e = .returned (.bool U.ends) ∧ wx = w') := fun wx hb => pover (h.on hb)
  have HC : Hid (∀ wx, Below w.heap.size w wx → (wx.cell? ⟨P, 2, none⟩ = some (.pointer (some ⟨T.t, 0, none⟩)) ∧ wx.cell? ⟨P, 3, none⟩ = some (.pointer (some ⟨U.u, 0, none⟩))) ∧ wx.cell? ⟨U.u, 2, none⟩ = some (.bool U.ends)) := fun wx hb => ⟨(h.on hb).ptrs.2.2, (h.ux.on hb).cell 2⟩
  clear h
  obtain ⟨en, hen⟩ : ∃ en, U.ends = en := ⟨_, rfl⟩
  rw [hen] at HPM HC
  clear hen
  go_enter Tryz.func8, Tryz.ntmps8
  go_upto_region 1 with fail
  obtain ⟨Q, hQ⟩ : ∃ Q, w.heap.size = Q := ⟨_, rfl⟩
  obtain ⟨wb, hwb⟩ : ∃ wb, w.alloc (.cells #[.int .i64 8, .int .i64 n, .int .u8 x, .slice ba bn bc, .slice ka kn kc] 45) = wb := ⟨_, rfl⟩
  have HB : Hid (Below w.heap.size w wb ∧ w.heap.size = Q) := ⟨by rw [← hwb]; exact (Below.refl _ _).alloc (Nat.le_refl _) _, hQ⟩
  have b0 : wb.cell? ⟨Q, 0, none⟩ = some (.int .i64 8) := by rw [← hwb, ← hQ]; exact box_at (Below.refl _ _) 0
  obtain ⟨⟨c2, c3⟩, c4⟩ := HC.out wb HB.out.1
  rw [hwb, hQ]
  clear hwb hQ
  go_upto_region 16 with fail
  have hS0 : wb.drew.cell? ⟨P, 2, none⟩ = some (.pointer (some ⟨T.t, 0, none⟩)) ∧ wb.drew.cell? ⟨P, 3, none⟩ = some (.pointer (some ⟨U.u, 0, none⟩)) ∧ wb.drew.cell? ⟨U.u, 2, none⟩ = some (.bool en) := ⟨c2, c3, c4⟩
  have HBd : Hid (Below w.heap.size w wb.drew) := HB.out.1.drew
  go_region_held3 (fun w' => w'.cell? ⟨P, 2, none⟩ = some (.pointer (some ⟨T.t, 0, none⟩)) ∧ w'.cell? ⟨P, 3, none⟩ = some (.pointer (some ⟨U.u, 0, none⟩)) ∧ w'.cell? ⟨U.u, 2, none⟩ = some (.bool en)) (first | exact hS0 | go_keep)
    (first
      | (go_at_call 11; refine (HPM.out _ HBd.out).mono ?_; rintro e w1 ⟨rfl, rfl⟩))
  go_wp2
  go_ret
  refine ⟨?_, D, R, T, U, K, (HX.out.on HBd.out).up (by omega), rfl⟩
  cases en <;> rfl
set_option maxRecDepth 100000 in
theorem rbegin6_any (w : World) (r : Nat) : Calls Tryz.prog 19 #[.pointer (some ⟨r, 0, none⟩)] w fun e w' => ∃ U, e = .returned (.pointer (some ⟨U.u, 0, none⟩)) ∧ RTxAt w' U ∧ U.r = r ∧ U.row = [] ∧ U.ends = false ∧ U.rv = .slice none 0 0 ∧ w.heap.size ≤ U.u ∧ Below w.heap.size w w' := by
  have HB : Hid (Below w.heap.size w (w.alloc (.cells #[.pointer (some ⟨r, 0, none⟩), .slice none 0 0, .bool false] 54))) := (Below.refl _ _).alloc (Nat.le_refl _) _
  have HR : Hid (RTxAt (w.alloc (.cells #[.pointer (some ⟨r, 0, none⟩), .slice none 0 0, .bool false] 54)) ⟨w.heap.size, r, .slice none 0 0, [], false⟩) := ⟨heap_alloc_new _ _, ⟨rfl, .inl ⟨rfl, rfl⟩⟩, Nat.zero_le _, (fun q h => by cases h)⟩
  go_enter Tryz.func19, Tryz.ntmps19
  go_wp2
  go_ret
  exact ⟨⟨w.heap.size, r, .slice none 0 0, [], false⟩, rfl, HR.out, rfl, rfl, rfl, rfl, Nat.le_refl _, HB.out⟩
/-- who has which blocks, but for the transactions -/
def cpB (D : Dk) (R : RDk) (K : Kb) (P : Nat) : Nat → Nat → Prop
  | 0, k => D.all k
  | 1, k => R.all k
  | 4, k => K.all k
  | 5, k => k = P
  | _, _ => False
/-- all but the transactions -/
structure XB (w0 w : World) (P : Nat) (D : Dk) (R : RDk) (K : Kb) (j : Nat) (c2 c3 : Value) : Prop where
  ws : WS w0 w D R (200 * j)
  rs : Rs D.abs
  bk : KbI w K
  bn : K.bn ≤ 2 * j
  im : K.im ≤ 2 * j
  px : w.heap[P]? = some (.cells #[.pointer (some ⟨D.d, 0, none⟩), .pointer (some ⟨R.r, 0, none⟩), c2, c3] 35 (0, 0))
  sep : Sep (cpB D R K P)
  far : ∀ i k, cpB D R K P i k → w0.heap.size ≤ k
theorem cpB_cps {D : Dk} {R : RDk} {K : Kb} {P i k : Nat} (T : Tx) (U : RTx) (h : cpB D R K P i k) : cps D R T U K P i k := by
  match i, h with
  | 0, h => exact h
  | 1, h => exact h
  | 4, h => exact h
  | 5, h => exact h
  | 2, h => exact h.elim
  | 3, h => exact h.elim
  | _ + 6, h => exact h.elim
theorem XS.base (h : XS w0 w P D R T U K j) : XB w0 w P D R K j (.pointer (some ⟨T.t, 0, none⟩)) (.pointer (some ⟨U.u, 0, none⟩)) := by
  obtain ⟨lab, hl⟩ := h.sep
  exact ⟨h.ws, h.rs, h.bk, h.bn, h.im, h.px, ⟨lab, fun i k e => hl i k (cpB_cps T U e)⟩, fun i k e => h.far i k (cpB_cps T U e)⟩
variable {c2 c3 : Value}
theorem XB.lt (h : XB w0 w P D R K j c2 c3) : ∀ i k, cpB D R K P i k → k < w.heap.size
  | 0, k, e => h.ws.lt (.inl e)
  | 1, k, e => h.ws.lt (.inr e)
  | 4, k, e => h.bk.lt e
  | 5, k, e => by have e : k = P := e; rw [e]; exact heap_lt h.px
  | 2, k, e => e.elim
  | 3, k, e => e.elim
  | _ + 6, k, e => e.elim
theorem XB.on (h : XB w0 w P D R K j c2 c3) (hb : Below w.heap.size w w') : XB w0 w' P D R K j c2 c3 :=
  ⟨h.ws.on hb, h.rs, h.bk.on hb, h.bn, h.im, (hb.block _ (heap_lt h.px)).trans h.px, h.sep, h.far⟩
theorem XB.set (h : XB w0 w P D R K j c2 c3) (f : Fr (fun k => k = P) w w') {c2' c3' : Value} (hp : w'.heap[P]? = some (.cells #[.pointer (some ⟨D.d, 0, none⟩), .pointer (some ⟨R.r, 0, none⟩), c2', c3'] 35 (0, 0))) : XB w0 w' P D R K j c2' c3' :=
  ⟨h.ws.fr f (fun k e e2 => by subst e2; exact e.elim (fun e => h.sep.ne (i := 0) (j := 5) (by omega) e rfl) (fun e => h.sep.ne (i := 1) (j := 5) (by omega) e rfl)) (fun k e => h.far 5 k e), h.rs, h.bk.fr f (fun k e e2 => h.sep.ne (i := 4) (j := 5) (by omega) e e2), h.bn, h.im, hp, h.sep, h.far⟩
theorem XB.cell (h : XB w0 w P D R K j c2 c3) (i : Nat) : w.cell? ⟨P, i, none⟩ = (#[.pointer (some ⟨D.d, 0, none⟩), .pointer (some ⟨R.r, 0, none⟩), c2, c3] : Array Value)[i]? := cell_of_row _ _ i _ _ _ h.px
/-- with new transactions -/
theorem XB.with_ (h : XB w0 w P D R K j (.pointer (some ⟨T.t, 0, none⟩)) (.pointer (some ⟨U.u, 0, none⟩))) (hT : TxAt w T) (hd : T.d = D.d) (hn : T.nb = D.nb) (hc : T.c = fun _ => none) (hu : T.us = []) (hU : RTxAt w U) (hur : U.r = R.r) (hro : U.row = []) (hen : U.ends = false)
    (n1 n2 : Nat) (h12 : n1 ≤ n2) (hold : ∀ i k, cpB D R K P i k → k < n1) (hw0 : w0.heap.size ≤ n1) (hTn : ∀ k, T.all k → n1 ≤ k ∧ k < n2) (hUn : ∀ k, U.all k → n2 ≤ k) : XS w0 w P D R T U K j := by
  have hb : ∀ i k, cps D R T U K P i k → cpB D R K P i k ∨ (i = 2 ∧ T.all k) ∨ (i = 3 ∧ U.all k) := fun i k e => by
    match i, e with
    | 0, e => exact .inl e
    | 1, e => exact .inl e
    | 2, e => exact .inr (.inl ⟨rfl, e⟩)
    | 3, e => exact .inr (.inr ⟨rfl, e⟩)
    | 4, e => exact .inl e
    | 5, e => exact .inl e
    | _ + 6, e => exact e.elim
  refine ⟨h.ws, h.rs, ⟨fun _ => ⟨hT, hd.symm, hn.symm, TU.new hc hu hro⟩, (fun e => by rw [hen] at e; cases e), fun k hk => hT.lt hk⟩, hU, hur, by rw [hro]; exact Nat.zero_le _, h.bk, h.bn, h.im, h.px, h.sep.step (fun k => n1 ≤ k) (fun i k e => ?_) (fun i i' k hk e e' => ?_), fun i k e => ?_⟩
  · rcases hb i k e with e | ⟨_, e⟩ | ⟨_, e⟩
    · exact .inl e
    · exact .inr (hTn k e).1
    · exact .inr (Nat.le_trans h12 (hUn k e))
  · rcases hb i k e with e | ⟨e1, e⟩ | ⟨e1, e⟩
    · have := hold i k e; omega
    · rcases hb i' k e' with e' | ⟨e2, e'⟩ | ⟨e2, e'⟩
      · have := hold i' k e'; omega
      · rw [e1, e2]
      · have := hTn k e; have := hUn k e'; omega
    · rcases hb i' k e' with e' | ⟨e2, e'⟩ | ⟨e2, e'⟩
      · have := hold i' k e'; omega
      · have := hTn k e'; have := hUn k e; omega
      · rw [e1, e2]
  · rcases hb i k e with e | ⟨_, e⟩ | ⟨_, e⟩
    · exact h.far i k e
    · exact Nat.le_trans hw0 (hTn k e).1
    · exact Nat.le_trans hw0 (Nat.le_trans h12 (hUn k e))
end Go.Proofs.YtcbebalakdkgnaaGreatDoor

namespace Go.Proofs.YtcbebalakdkgnaaGreatDoor
open Go.RowKit Rec
variable {w0 w w1 wx w2 w' : World} {P j j' : Nat} {D D' : Dk} {R R' : RDk} {T T' : Tx} {U U' : RTx} {K K' : Kb} {row' : List Dn} {c2 c3 : Value}
set_option maxRecDepth 100000 in
set_option maxHeartbeats 8000000 in
theorem begins_any (h : XB w0 w P D R K j c2 c3) (_n2 : c2.oneCell' = true) (_n3 : c3.oneCell' = true) : Calls Tryz.prog 7 #[.pointer (some ⟨P, 0, none⟩)] w fun e w' => e = .returned (.bool true) ∧ ∃ T U, XS w0 w' P D R T U K j := by
  have hnb : D.nb = R.nb := h.ws.t.tie.nb
  have hnb2 := h.ws.t.r.nb0
  have HX : Hid (XB w0 w P D R K j c2 c3) := h
  have HN : Hid (D.nb ≤ 16384) := by show D.nb ≤ 16384; omega
  have d0 : w.cell? ⟨P, 0, none⟩ = some (.pointer (some ⟨D.d, 0, none⟩)) := h.cell 0
  clear h hnb hnb2
  go_enter Tryz.func7, Tryz.ntmps7
  go_upto_region 2 with (go_at_call 18; refine (begin_any w D.d D.nb HN.out).mono ?_; rintro e w1 ⟨T, rfl, h1, h2, h3, h4, h5⟩
                         have H1 : Hid (TMine w w1 T ∧ T.d = D.d ∧ T.nb = D.nb ∧ T.c = (fun _ => none) ∧ T.us = []) := ⟨h1, h2, h3, h4, h5⟩
                         have hx := HX.out.on h1.bel
                         have e2 : w1.cell? ⟨P, 2, none⟩ = some c2 := hx.cell 2
                         have f2 : w1.frozen? ⟨P, 2, none⟩ = false := frozen_of_row _ _ 2 _ _ hx.px
                         clear h1 h2 h3 h4 h5 hx d0)
  obtain ⟨w2, hw2⟩ : ∃ w2, w1.setCell ⟨P, 2, none⟩ (.pointer (some ⟨T.t, 0, none⟩)) = w2 := ⟨_, rfl⟩
  have H2 : Hid (XB w0 w2 P D R K j (.pointer (some ⟨T.t, 0, none⟩)) c3 ∧ Fr (fun k => k = P) w1 w2) := by
    have hx := HX.out.on H1.out.1.bel
    have hs := heap_setCell_same w1 P 2 _ _ (.pointer (some ⟨T.t, 0, none⟩)) hx.px
    have f : Fr (fun k => k = P) w1 (w1.setCell ⟨P, 2, none⟩ (.pointer (some ⟨T.t, 0, none⟩))) := Fr.set
    rw [hw2] at hs f
    exact ⟨hx.set f hs, f⟩
  rw [hw2]
  have d1 : w2.cell? ⟨P, 1, none⟩ = some (.pointer (some ⟨R.r, 0, none⟩)) := H2.out.1.cell 1
  clear hw2 e2 f2
  go_upto_region 3 with (go_at_call 19; refine (rbegin6_any w2 R.r).mono ?_; rintro e w3 ⟨U, rfl, h1, h2, h3, h4, h5, h6, h7⟩
                         have H3 : Hid (RTxAt w3 U ∧ U.r = R.r ∧ U.row = [] ∧ U.ends = false ∧ U.rv = .slice none 0 0 ∧ w2.heap.size ≤ U.u ∧ Below w2.heap.size w2 w3) := ⟨h1, h2, h3, h4, h5, h6, h7⟩
                         have hx := H2.out.1.on h7
                         have e3 : w3.cell? ⟨P, 3, none⟩ = some c3 := hx.cell 3
                         have f3 : w3.frozen? ⟨P, 3, none⟩ = false := frozen_of_row _ _ 3 _ _ hx.px
                         clear h1 h2 h3 h4 h5 h6 h7 hx d1)
  obtain ⟨w4, hw4⟩ : ∃ w4, w3.setCell ⟨P, 3, none⟩ (.pointer (some ⟨U.u, 0, none⟩)) = w4 := ⟨_, rfl⟩
  have H4 : Hid (XB w0 w4 P D R K j (.pointer (some ⟨T.t, 0, none⟩)) (.pointer (some ⟨U.u, 0, none⟩)) ∧ Fr (fun k => k = P) w3 w4) := by
    have hx := H2.out.1.on H3.out.2.2.2.2.2.2
    have hs := heap_setCell_same w3 P 3 _ _ (.pointer (some ⟨U.u, 0, none⟩)) hx.px
    have f : Fr (fun k => k = P) w3 (w3.setCell ⟨P, 3, none⟩ (.pointer (some ⟨U.u, 0, none⟩))) := Fr.set
    rw [hw4] at hs f
    exact ⟨hx.set f hs, f⟩
  rw [hw4]
  have d2 : w4.cell? ⟨P, 2, none⟩ = some (.pointer (some ⟨T.t, 0, none⟩)) := H4.out.1.cell 2
  clear hw4 e3 f3
  go_wp2
  go_ret
  obtain ⟨hm, hd, hn, hc, hu⟩ := H1.out
  obtain ⟨gU, gr, gro, gen, grv, gu, gb⟩ := H3.out
  have hP : P < w.heap.size := HX.out.lt 5 P rfl
  have s1 := hm.bel.size
  have s2 := H2.out.2.size
  have s3 := gb.size
  refine ⟨rfl, T, U, H4.out.1.with_ (n1 := w.heap.size) (n2 := w2.heap.size) ?_ hd hn hc hu ?_ gr gro gen (by omega) (fun i k e => HX.out.lt i k e) HX.out.ws.be.size (fun k e => ⟨hm.far k e, Nat.lt_of_lt_of_le (hm.at_.lt e) s2⟩) (fun k e => ?_)⟩
  · refine ((hm.at_.fr H2.out.2 (fun k e e2 => ?_)).on gb).fr H4.out.2 (fun k e e2 => ?_)
    · have := hm.far k e; omega
    · have := hm.far k e; omega
  · refine gU.fr H4.out.2 (fun k e e2 => ?_)
    rcases e with e | e
    · omega
    · rw [grv] at e; cases e
  · rcases e with e | e
    · omega
    · rw [grv] at e; cases e
end Go.Proofs.YtcbebalakdkgnaaGreatDoor

namespace Go.Proofs.YtcbebalakdkgnaaGreatDoor
open Go.RowKit Rec
variable {w0 w w1 wx w2 w' : World} {P j j' : Nat} {D D' : Dk} {R R' : RDk} {T T' : Tx} {U U' : RTx} {K K' : Kb} {row' : List Dn} {c2 c3 : Value}
set_option maxRecDepth 100000 in
set_option maxHeartbeats 8000000 in
theorem xplay9 (h : XS w0 w P D R T U K j) (n x : Int) (ba ka : Option Addr) (bn bc kn kc : Nat) :
    Calls Tryz.prog 8 #[.pointer (some ⟨P, 0, none⟩), .agg #[.int .i64 9, .int .i64 n, .int .u8 x, .slice ba bn bc, .slice ka kn kc], .pointer (some ⟨K.kb, 0, none⟩)] w (PlP w0 P j K.kb) := by
  have HX : Hid (XS w0 w P D R T U K j) := h
  have HC : Hid (∀ wx, Below w.heap.size w wx → wx.cell? ⟨P, 3, none⟩ = some (.pointer (some ⟨U.u, 0, none⟩)) ∧ wx.cell? ⟨U.u, 2, none⟩ = some (.bool U.ends)) := fun wx hb => ⟨(h.on hb).ptrs.2.2.2, (h.ux.on hb).cell 2⟩
  have HBe : Hid (∀ wx, Below w.heap.size w wx → Calls Tryz.prog 7 #[.pointer (some ⟨P, 0, none⟩)] wx fun e w' => e = .returned (.bool true) ∧ ∃ T U, XS w0 w' P D R T U K j) := fun wx hb => begins_any (h.on hb).base rfl rfl
  clear h
  cases hen : U.ends with
  | false =>
    rw [hen] at HC
    go_enter Tryz.func8, Tryz.ntmps8
    go_upto_region 1 with fail
    obtain ⟨Q, hQ⟩ : ∃ Q, w.heap.size = Q := ⟨_, rfl⟩
    obtain ⟨wb, hwb⟩ : ∃ wb, w.alloc (.cells #[.int .i64 9, .int .i64 n, .int .u8 x, .slice ba bn bc, .slice ka kn kc] 45) = wb := ⟨_, rfl⟩
    have HB : Hid (Below w.heap.size w wb) := by rw [← hwb]; exact (Below.refl _ _).alloc (Nat.le_refl _) _
    have b0 : wb.cell? ⟨Q, 0, none⟩ = some (.int .i64 9) := by rw [← hwb, ← hQ]; exact box_at (Below.refl _ _) 0
    obtain ⟨e3, e4⟩ := HC.out wb HB.out
    rw [hwb, hQ]
    clear hwb hQ
    go_wp2
    go_ret
    exact ⟨rfl, D, R, T, U, K, (HX.out.on HB.out).up (by omega), rfl⟩
  | true =>
    rw [hen] at HC
    go_enter Tryz.func8, Tryz.ntmps8
    go_upto_region 1 with fail
    obtain ⟨Q, hQ⟩ : ∃ Q, w.heap.size = Q := ⟨_, rfl⟩
    obtain ⟨wb, hwb⟩ : ∃ wb, w.alloc (.cells #[.int .i64 9, .int .i64 n, .int .u8 x, .slice ba bn bc, .slice ka kn kc] 45) = wb := ⟨_, rfl⟩
    have HB : Hid (Below w.heap.size w wb) := by rw [← hwb]; exact (Below.refl _ _).alloc (Nat.le_refl _) _
    have b0 : wb.cell? ⟨Q, 0, none⟩ = some (.int .i64 9) := by rw [← hwb, ← hQ]; exact box_at (Below.refl _ _) 0
    obtain ⟨e3, e4⟩ := HC.out wb HB.out
    rw [hwb, hQ]
    clear hwb hQ
    go_wp2_with (go_at_call 7; refine (HBe.out wb HB.out).mono ?_; rintro e w1 ⟨rfl, T1, U1, h1⟩; have H1 : Hid (XS w0 w1 P D R T1 U1 K j) := h1; clear h1)
    go_ret
    exact ⟨rfl, D, R, T1, U1, K, H1.out.up (by omega), rfl⟩
set_option maxRecDepth 100000 in
set_option maxHeartbeats 8000000 in
/-- a step of another kind -/
theorem xplayN (h : XS w0 w P D R T U K j) (k n x : Int) (ba ka : Option Addr) (bn bc kn kc : Nat) (h1 : ¬ k = 1) (h2 : ¬ k = 2) (h3 : ¬ k = 3) (h4 : ¬ k = 4) (h5 : ¬ k = 5) (h6 : ¬ k = 6) (h7 : ¬ k = 7) (h8 : ¬ k = 8) (h9 : ¬ k = 9) (h10 : ¬ k = 10) (h11 : ¬ k = 11) :
    Calls Tryz.prog 8 #[.pointer (some ⟨P, 0, none⟩), .agg #[.int .i64 k, .int .i64 n, .int .u8 x, .slice ba bn bc, .slice ka kn kc], .pointer (some ⟨K.kb, 0, none⟩)] w (PlP w0 P j K.kb) := by
  have HX : Hid (XS w0 w P D R T U K j) := h
  have HLs : Hid (∀ wx, Calls Tryz.prog 12 #[.pointer (some ⟨P, 0, none⟩), .agg #[.int .i64 k, .int .i64 n, .int .u8 x, .slice ba bn bc, .slice ka kn kc], .pointer (some ⟨K.kb, 0, none⟩)] wx fun e w' => e = .returned (.bool true) ∧ Below wx.heap.size wx w') := fun wx => xlists_no wx _ _ k n x ba ka bn bc kn kc h1 h3
  have e2 : (k == 2) = false := beq_eq_false_iff_ne.2 h2
  have e4 : (k == 4) = false := beq_eq_false_iff_ne.2 h4
  have e5 : (k == 5) = false := beq_eq_false_iff_ne.2 h5
  have e6 : (k == 6) = false := beq_eq_false_iff_ne.2 h6
  have e7 : (k == 7) = false := beq_eq_false_iff_ne.2 h7
  have e8 : (k == 8) = false := beq_eq_false_iff_ne.2 h8
  have e9 : (k == 9) = false := beq_eq_false_iff_ne.2 h9
  have e10 : (k == 10) = false := beq_eq_false_iff_ne.2 h10
  have e11 : (k == 11) = false := beq_eq_false_iff_ne.2 h11
  clear h h1 h2 h3 h4 h5 h6 h7 h8 h9 h10 h11
  go_enter Tryz.func8, Tryz.ntmps8
  go_upto_region 1 with fail
  obtain ⟨Q, hQ⟩ : ∃ Q, w.heap.size = Q := ⟨_, rfl⟩
  obtain ⟨wb, hwb⟩ : ∃ wb, w.alloc (.cells #[.int .i64 k, .int .i64 n, .int .u8 x, .slice ba bn bc, .slice ka kn kc] 45) = wb := ⟨_, rfl⟩
  have HB : Hid (Below w.heap.size w wb) := by rw [← hwb]; exact (Below.refl _ _).alloc (Nat.le_refl _) _
  have b0 : wb.cell? ⟨Q, 0, none⟩ = some (.int .i64 k) := by rw [← hwb, ← hQ]; exact box_at (Below.refl _ _) 0
  have b1 : wb.cell? ⟨Q, 1, none⟩ = some (.int .i64 n) := by rw [← hwb, ← hQ]; exact box_at (Below.refl _ _) 1
  have b2 : wb.cell? ⟨Q, 2, none⟩ = some (.int .u8 x) := by rw [← hwb, ← hQ]; exact box_at (Below.refl _ _) 2
  have b3 : wb.cell? ⟨Q, 3, none⟩ = some (.slice ba bn bc) := by rw [← hwb, ← hQ]; exact box_at (Below.refl _ _) 3
  have b4 : wb.cell? ⟨Q, 4, none⟩ = some (.slice ka kn kc) := by rw [← hwb, ← hQ]; exact box_at (Below.refl _ _) 4
  rw [hwb, hQ]
  clear hwb hQ
  go_wp2_with (go_at_call 12; refine (HLs.out wb).mono ?_; rintro e w3 ⟨rfl, hb⟩; have H4 : Hid (XS w0 w3 P D R T U K j) := (HX.out.on HB.out).on hb; clear hb)
  go_ret
  exact ⟨rfl, D, R, T, U, K, H4.out.up (by omega), rfl⟩
end Go.Proofs.YtcbebalakdkgnaaGreatDoor

namespace Go.Proofs.YtcbebalakdkgnaaGreatDoor
open Go.RowKit Rec
variable {w0 w w1 wx w2 w' : World} {P j j' : Nat} {D D' : Dk} {R R' : RDk} {T T' : Tx} {U U' : RTx} {K K' : Kb} {row' : List Dn} {c2 c3 : Value}
/-- the program's commit, the document's not yet -/
structure HalfC (w w1 : World) (D : Dk) (T : Tx) (U : RTx) (D' : Dk) : Prop where
  d : Disk w1 D'
  fr : Fr (fun k => D.all k ∨ k = T.t) w w1
  al : ∀ k, D'.all k → D.all k ∨ w.heap.size ≤ k
  dd : D'.d = D.d
  nb : D'.nb = D.nb
  abs : D'.abs = rcA6 D.abs U
  o : OverAt w1 T.t
theorem comok6 (h : XS w0 w P D R T U K j) (hen : U.ends = false) : wl U.row D.nb = [] ∨ ComOk D.nb (wl U.row D.nb) (vls U.row D.nb) := by
  obtain ⟨hx, hd, hn, hu⟩ := h.tp.live hen
  obtain ⟨e1, e2⟩ := hu.lists hx.ok
  rw [hn, ← e1, ← e2]
  by_cases hne : lst T.c T.nb = []
  · exact .inl (by rw [hne]; rfl)
  · have h98 : 98 ≤ T.nb := by
      cases e : lst T.c T.nb with
      | nil => exact absurd e hne
      | cons q l =>
        obtain ⟨i, hi, hq⟩ := lst_mem (c := T.c) (n := T.nb) (q := q) (by rw [e]; exact List.mem_cons_self)
        have := hx.ok.lo i q hq
        omega
    exact .inr (lst_ok hx.ok (fun i q hq => (hx.blk i q hq).len) h98 hx.n16 hne hx.cnt)
theorem half_commit (h : XS w0 w P D R T U K j) (hT : TabAt w0) (hj : 200 * j + 200 ≤ 1000000000) : Calls Tryz.prog 25 #[.pointer (some ⟨T.t, 0, none⟩)] w fun e w1 => e = .returned (.int .i64 (rcE6 D.abs U)) ∧ ∃ D', HalfC w w1 D T U D' := by
  have hTw : TabAt w := hT.on h.ws.be
  cases hen : U.ends with
  | true =>
    have e1 : rcE6 D.abs U = 61 := by unfold rcE6; rw [if_pos hen]
    have e2 : rcA6 D.abs U = D.abs := by unfold rcA6; rw [if_pos hen]
    rw [e1]
    refine (commit_over w T.t (h.tp.over hen)).mono ?_
    rintro e w1 ⟨rfl, rfl⟩
    exact ⟨rfl, D, h.ws.d, Fr.refl _ _, fun _ e => .inl e, rfl, rfl, e2.symm, h.tp.over hen⟩
  | false =>
    obtain ⟨hx, hd, hn, hu⟩ := h.tp.live hen
    obtain ⟨l1, l2⟩ := hu.lists hx.ok
    have hDt : ∀ k, D.all k → ¬ T.all k := fun k e e' => h.sep.ne (i := 0) (j := 2) (by omega) e e'
    have htt : T.all T.t := .inl (.inl rfl)
    have hnbw : D.abs.nb = T.nb := hn
    have hrow : ∀ {wa wb : World} {E : Dk}, Below w.heap.size w wa → Mv wa D wb E → wb.heap[T.t]? = some (.cells T.cells 76 (0, 0)) := fun hb hm => ((hx.on hb).fr hm.fr (fun k e e2 => hDt k (Dk.hasAll e2) e)).row
    by_cases hne : lst T.c T.nb = []
    · have hw : wl U.row T.nb = [] := by rw [← l1, hne]; rfl
      have e1 : rcE6 D.abs U = 0 := by unfold rcE6; rw [if_neg (by rw [hen]; simp), hnbw, if_pos hw]
      have e2 : rcA6 D.abs U = D.abs := by unfold rcA6; rw [if_neg (by rw [hen]; simp), hnbw, if_pos hw]
      rw [e1]
      refine (tcommit_any w T hx (fun r w2 => r = 0 ∧ Below w.heap.size w w2) 0 (by rw [hne]; rfl) (fun wx va vc hb _ => ?_)).mono ?_
      · refine (commit_nil wx _ va vc).mono ?_
        rintro e w' ⟨rfl, rfl⟩
        exact ⟨0, rfl, ⟨rfl, hb⟩, (hx.on hb).row⟩
      · rintro e w' ⟨r, w2, rfl, ⟨rfl, hb⟩, ho, hF⟩
        refine ⟨rfl, D, (h.ws.d.on hb).fr hF (fun k hk e => ?_), ((below_fr hb (fun k => k = T.t)).trans hF (fun k e => .inl e)).mono (fun k e => .inr e), fun _ e => .inl e, rfl, rfl, e2.symm, ho⟩
        subst e; exact hDt _ hk htt
    · have hp : 0 < (lst T.c T.nb).length := by
        cases e : lst T.c T.nb with
        | nil => exact absurd e hne
        | cons a l => simp
      have hwne : wl U.row T.nb ≠ [] := fun e => by
        have := hu.wlen hx.ok
        rw [e] at this
        simp at this; omega
      have e1 : rcE6 D.abs U = D.abs.takeE (commitA (nsB (lst T.c T.nb)) (dsB (lst T.c T.nb))) := by unfold rcE6; rw [if_neg (by rw [hen]; simp), hnbw, if_neg hwne, l1, l2]
      have e2 : rcA6 D.abs U = D.abs.take (commitA (nsB (lst T.c T.nb)) (dsB (lst T.c T.nb))) := by unfold rcA6; rw [if_neg (by rw [hen]; simp), hnbw, if_neg hwne, l1, l2]
      rw [e1]
      have ok : ComOk D.nb (nsB (lst T.c T.nb)) (dsB (lst T.c T.nb)) := by
        have := (comok6 h hen).resolve_left (by rw [hn]; exact hwne)
        rw [hn, ← l1, ← l2] at this
        rw [hn]; exact this
      have h96 := hx.cnt
      refine (tcommit_any w T hx (fun r w2 => r = D.abs.takeE (commitA (nsB (lst T.c T.nb)) (dsB (lst T.c T.nb))) ∧ ∃ w1 E, Below w.heap.size w w1 ∧ DoneAt w1 D w2 E (commitA (nsB (lst T.c T.nb)) (dsB (lst T.c T.nb)))) _ rfl (fun wx va vc hb hB => ?_)).mono ?_
      · obtain ⟨g, rfl, hB2⟩ := hB.resolve_left hne
        have := commit_ok wx D (h.ws.d.on hb) (hTw.on hb) g _ vc _ hB2 rfl hp ok (fun q hq hh => by
          obtain ⟨i, hi, e⟩ := lst_mem hq
          exact hDt q.g (Dk.hasAll hh) (.inr (.inl ⟨i, q, e, rfl⟩))) (h.ws.roomN hj _ (by omega))
        rw [hd] at this
        refine this.mono ?_
        rintro e w' ⟨rfl, E, hE⟩
        exact ⟨_, rfl, ⟨rfl, wx, E, hb, hE⟩, hrow hb hE.mv⟩
      · rintro e w' ⟨r, w2, rfl, ⟨rfl, w1, E, hb, hE⟩, ho, hF⟩
        have hs1 := hb.size
        have hEal : ∀ k, E.all k → D.all k ∨ w.heap.size ≤ k := fun k e => (hE.al k e).imp id (fun e => by omega)
        refine ⟨rfl, E, hE.disk.fr hF (fun k hk e => ?_), ?_, hEal, hE.mv.d, hE.mv.nb, by rw [e2]; exact hE.abs, ho⟩
        · subst e
          rcases hEal _ hk with e | e
          · exact hDt _ e htt
          · have := hx.lt htt; omega
        · refine ((below_fr hb (fun k => D.all k ∨ k = T.t)).trans (hE.mv.fr.mono (fun k e => Dk.hasAll e)) (fun k e => .inl (.inl e))).trans (hF.mono (T := fun k => k = T.t) (fun k e => e)) (fun k e => .inl (.inr e))
end Go.Proofs.YtcbebalakdkgnaaGreatDoor

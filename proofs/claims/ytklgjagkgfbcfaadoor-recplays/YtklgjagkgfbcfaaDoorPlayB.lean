import Derived.Test.YtklgjagkgfbcfaaDoorPlayM
namespace Go.Proofs.YtklgjagkgfbcfaaDoor
open Go.RowKit Rec

set_option maxRecDepth 100000 in
set_option maxHeartbeats 4000000 in
theorem plays_law (w : World) (a0 a1 : Option Addr) (n c m d : Nat) (l : List Int) (L : List OpR) (hn : l.length = n) (hB : Bytes w a0 l) (hz : a0 = none → c = 0) (h47 : n ≤ 140737488351232) (hT : TabAt w) (hm : L.length = m) (hP : Ops w a1 L) (hm47 : m ≤ 2932031007317) :
    Calls Tryd.prog 5 #[.slice a0 n c, .slice a1 m d] w fun e w' => e = .returned (.bool true) ∧ Below w.heap.size w w' := by
  have HT : Hid (TabAt w) := hT
  have HB : Hid (Bytes w a0 l) := hB
  have HZ : Hid (a0 = none → c = 0) := hz
  have HN : Hid (l.length = n) := hn
  have HM : Hid (L.length = m) := hm
  have HP : Hid (Ops w a1 L) := hP
  clear hT hB hz hn hm hP
  go_enter Tryd.func5, Tryd.ntmps5
  go_wp2_with fail
  refine (fixed_any w HT.out).mono ?_
  rintro e w1 ⟨rfl, hb⟩
  have HB1 : Hid (Below w.heap.size w w1) := hb
  have HBA : Hid (Bytes w1 a0 l) := HB.out.on hb
  clear hb
  go_wp2_with (first
    | (at_builtin; refine wp_app (w := World.alloc w1 _) rfl (.tmp 20) (.tmp 21) rfl w1.heap.size w1.heap.size 0 0 [] l rfl rfl (own_empty (heap_alloc_new _ _)) (Nat.le_refl _) (by simp) a0 n c rfl HN.out (HBA.out.on ((Below.refl _ _).alloc (Nat.le_refl _) _)) HZ.out (by omega) ?_; intro g2 cap2 w2 hg2 ho2 hgr2; have HG2 : Hid (w1.heap.size ≤ g2) := hg2; have HO2 : Hid (OwnB w2 g2 cap2 l) := ho2; have q1 : Below w1.heap.size w1 (w1.alloc (.cells #[] 5)) := (Below.refl _ _).alloc (Nat.le_refl _) _; have q2 : Below w1.heap.size (w1.alloc (.cells #[] 5)) w2 := below_of hgr2 (Nat.le_refl _) (by simp); have HB2 : Hid (Below w1.heap.size w1 w2) := q1.trans q2; clear q1 q2 hg2 ho2 hgr2; simp only [Nat.zero_add])
    | (at_builtin; refine wp_app (w := World.alloc w2 _) rfl (.tmp 22) (.tmp 23) rfl w1.heap.size g2 n cap2 l mk3 HN.out rfl (HO2.out.on ((Below.refl _ _).alloc (Nat.le_refl _) _)) HG2.out (Nat.le_trans HB2.out.size (by simp)) _ 3 3 rfl rfl (own_new mk3 (by decide) (wf_list (by decide))).bytes (fun h => nomatch h) (by omega) ?_; intro g3 cap3 w3 hg3 ho3 hgr3; have HG3 : Hid (w1.heap.size ≤ g3) := hg3; have HO3 : Hid (OwnB w3 g3 cap3 (l ++ mk3)) := ho3; have q1 : Below w1.heap.size w2 (w2.alloc (.cells (mk3.map (Value.int .u8)).toArray 5)) := (Below.refl _ _).alloc HB2.out.size _; have q2 : Below w1.heap.size (w2.alloc (.cells (mk3.map (Value.int .u8)).toArray 5)) w3 := below_of hgr3 HG2.out (Nat.le_trans HB2.out.size (by simp)); have HB3 : Hid (Below w1.heap.size w1 w3) := (HB2.out.trans q1).trans q2; clear q1 q2 hg3 ho3 hgr3; have HBC : Hid (Bytes w3 a0 l) := HBA.out.on HB3.out; have hroom : n + 3 ≤ cap3 := by have := HO3.out.room; rw [List.length_append, HN.out] at this; exact this)
    | (at_builtin; refine wp_app (w := World.alloc w3 _) rfl (.tmp 29) (.tmp 30) rfl w3.heap.size w3.heap.size 0 0 [] l rfl rfl (own_empty (heap_alloc_new _ _)) (Nat.le_refl _) (by simp) a0 n c rfl HN.out (HBC.out.on ((Below.refl _ _).alloc (Nat.le_refl _) _)) HZ.out (by omega) ?_; intro g4 cap4 w4 hg4 ho4 hgr4; have HG4 : Hid (w3.heap.size ≤ g4) := hg4; have HO4 : Hid (OwnB w4 g4 cap4 l) := ho4; have q1 : Below w3.heap.size w3 (w3.alloc (.cells #[] 5)) := (Below.refl _ _).alloc (Nat.le_refl _) _; have q2 : Below w3.heap.size (w3.alloc (.cells #[] 5)) w4 := below_of hgr4 (Nat.le_refl _) (by simp); have HB4 : Hid (Below w3.heap.size w3 w4) := q1.trans q2; clear q1 q2 hg4 ho4 hgr4; simp only [Nat.zero_add]))
  have HGB : Hid (w.heap.size ≤ g3 ∧ g3 < w4.heap.size) := ⟨Nat.le_trans HB1.out.size HG3.out, Nat.lt_of_lt_of_le HO3.out.lt HB4.out.size⟩
  have HHB : Hid (w.heap.size ≤ g4 ∧ g4 < w4.heap.size) := ⟨Nat.le_trans (Nat.le_trans HB1.out.size HB3.out.size) HG4.out, HO4.out.lt⟩
  have hne : g3 ≠ g4 := Nat.ne_of_lt (Nat.lt_of_lt_of_le HO3.out.lt HG4.out)
  have HW4 : Hid (Below w.heap.size w w4) := (HB1.out.trans (HB3.out.mono HB1.out.size)).trans (HB4.out.mono (Nat.le_trans HB1.out.size HB3.out.size))
  have hcap4 : n ≤ cap4 := by have := HO4.out.room; rw [HN.out] at this; exact this
  have HR0 : Hid (PR w w4 g3 g4 cap3 cap4 n w4.heap.size (.slice none 0 0) (.slice none 0 0) 0 l []) :=
    ⟨HN.out, HO3.out.on HB4.out, by rw [List.append_nil]; exact HO4.out, World.ownsRow_nil _ _ _ _, World.ownsRow_nil _ _ _ _, fun t ht => (nomatch ht), .inl ⟨rfl, rfl⟩, HW4.out, Nat.le_refl _⟩
  have HSz : Hid (w.heap.size ≤ w4.heap.size) := HW4.out.size
  clear HO2 HO3 HO4 HB2 HB3 HB4 HG2 HG3 HG4 HBA HBC HB1 HW4
  generalize w4.heap.size = B at *
  go_loopw [8, 9, 10] (fun v8 v9 i wr => ∃ (j k : Nat) (l' : List Int) (ts : List Value), j ≤ m ∧ k ≤ j ∧ i = .int .i64 j ∧ PR w wr g3 g4 cap3 cap4 n B v8 v9 k l' ts) (fun _ _ i _ => m - (intOf i).toNat)
  case atStart => exact ⟨0, 0, l, [], Nat.zero_le _, Nat.le_refl _, rfl, HR0.out⟩
  case round =>
    obtain ⟨j, k, l', ts, hj, hk, rfl, hpr⟩ := hrel
    have HR : Hid (PR w wr g3 g4 cap3 cap4 n B u8 u9 k l' ts) := hpr
    clear hpr HR0
    by_cases hlt : j < m
    · obtain ⟨q, hq⟩ : ∃ q : OpR, L[j]? = some q := ⟨L[j]'(by rw [HM.out]; exact hlt), List.getElem?_eq_getElem _⟩
      obtain ⟨b, off, hab, hat⟩ : ∃ b off, a1 = some ⟨b, off, none⟩ ∧ OpAt wr b (off + j * 5) q := by
        rcases HP.out.at_ with e | ⟨b, off, e, hc⟩
        · rw [e] at hq; cases hq
        · exact ⟨b, off, e, (hc j q hq).on HR.out.below⟩
      have hok := HP.out.each q (List.mem_of_getElem? hq)
      obtain ⟨kind, at_, N, V, s⟩ := q
      have HOK : Hid (OpOk ⟨kind, at_, N, V, s⟩) := hok
      have f0 := hat.f0
      have f1 := hat.f1
      have f2 := hat.f2
      have f3 := hat.f3
      have f4 := hat.f4
      simp only at f0 f1 f2 f3 f4
      have HAB : Hid (a1 = some ⟨b, off, none⟩) := hab
      clear hok hq hat hab
      rw [HAB.out]
      go_upto_region 11 with fail
      have hal : Below wr.heap.size wr (wr.alloc (.cells #[.int .i64 kind, .int .i64 at_, .int .i64 N, .int .u64 V, .string s] 46)) := (Below.refl _ _).alloc (Nat.le_refl _) _
      have HR5 : Hid (PR w (wr.alloc (.cells #[.int .i64 kind, .int .i64 at_, .int .i64 N, .int .u64 V, .string s] 46)) g3 g4 cap3 cap4 n B u8 u9 k l' ts) := HR.out.on hal HGB.out HHB.out HSz.out
      have hrow := heap_alloc_new wr (.cells #[.int .i64 kind, .int .i64 at_, .int .i64 N, .int .u64 V, .string s] 46)
      have HC : Hid (∀ j, (wr.alloc (.cells #[.int .i64 kind, .int .i64 at_, .int .i64 N, .int .u64 V, .string s] 46)).cell? ⟨wr.heap.size, j, none⟩ = (#[Value.int .i64 kind, .int .i64 at_, .int .i64 N, .int .u64 V, .string s])[j]?) := fun j => cell_of_row _ _ _ _ _ _ hrow
      have HQ : Hid (g3 ≠ wr.heap.size ∧ g4 ≠ wr.heap.size) := ⟨Nat.ne_of_lt (Nat.lt_of_lt_of_le HGB.out.2 HR.out.size), Nat.ne_of_lt (Nat.lt_of_lt_of_le HHB.out.2 HR.out.size)⟩
      clear hrow hal f0 f1 f2 f3 f4 HR
      generalize hw5 : wr.alloc (.cells #[.int .i64 kind, .int .i64 at_, .int .i64 N, .int .u64 V, .string s] 46) = w5 at *
      clear hw5
      generalize wr.heap.size = bq at *
      have E0 : w5.cell? ⟨bq, 0, none⟩ = some (.int .i64 kind) := HC.out 0
      have E1 : w5.cell? ⟨bq, 1, none⟩ = some (.int .i64 at_) := HC.out 1
      have E2 : w5.cell? ⟨bq, 2, none⟩ = some (.int .i64 N) := HC.out 2
      have E3 : w5.cell? ⟨bq, 3, none⟩ = some (.int .u64 V) := HC.out 3
      have E4 : w5.cell? ⟨bq, 4, none⟩ = some (.string s) := HC.out 4
      have HX : Hid (∀ wx, Kp g3 g4 w5 wx → wx.cell? ⟨bq, 0, none⟩ = some (.int .i64 kind) ∧ wx.cell? ⟨bq, 1, none⟩ = some (.int .i64 at_) ∧ wx.cell? ⟨bq, 2, none⟩ = some (.int .i64 N)) := fun wx hx =>
        ⟨hx.cell E0 (Ne.symm HQ.out.1) (Ne.symm HQ.out.2), hx.cell E1 (Ne.symm HQ.out.1) (Ne.symm HQ.out.2), hx.cell E2 (Ne.symm HQ.out.1) (Ne.symm HQ.out.2)⟩
      clear HC
      go_wp2_with fail
      refine (plays_any w5 g3 g4 cap3 cap4 n cap3 cap4 l' mk3 [] kind at_ N V s HR5.out.len HR5.out.og HR5.out.oh hne (by omega) hcap4 (HT.out.on HR5.out.below) (Nat.lt_of_lt_of_le HT.out.size HGB.out.1) (Nat.lt_of_lt_of_le HT.out.size HHB.out.1) HOK.out.a1 HOK.out.n1 HOK.out.v1 HOK.out.s1).mono ?_
      rintro e w6 ⟨rfl, l2, hl2, o4, o5, kp⟩
      have HR6 : Hid (PR w w6 g3 g4 cap3 cap4 n B u8 u9 k l2 ts) := HR5.out.kp kp HGB.out HHB.out HSz.out hl2 o4 o5
      have HK6 : Hid (Kp g3 g4 w5 w6) := kp
      clear hl2 o4 o5 kp E0 E1 E2 E3 E4
      go_wp2_with fail
      have HL2 : Hid (l2.length = n) := HR6.out.len
      refine (same_any w6 _ _ n cap3 n cap4 l2 l2 HL2.out HL2.out (by have := HR6.out.og.bytes.take n; rw [List.take_left' HL2.out] at this; exact this) (by have := HR6.out.oh.bytes; rw [List.append_nil] at this; exact this)).mono ?_
      rintro e w7 ⟨rfl, hb⟩
      rw [decide_eq_true rfl]
      have HR7 : Hid (PR w w7 g3 g4 cap3 cap4 n B u8 u9 k l2 ts) := HR6.out.on hb HGB.out HHB.out HSz.out
      obtain ⟨E0, E1, E2⟩ := HX.out w7 (HK6.out.trans (kp_below hb))
      clear hb HX HK6 HR6 HR5
      by_cases hk2 : kind = 2
      · subst hk2
        go_wp2_with fail
        refine (text_any w7 g3 cap3 n cap3 at_ N l2 mk3 HL2.out HR7.out.og (by omega) HOK.out.a1).mono ?_
        rintro e w7b ⟨rfl, rfl⟩
        go_wp2_with fail
        refine (rtext_any w7b g4 cap4 n cap4 at_ N l2 [] HL2.out HR7.out.oh hcap4 HOK.out.n1).mono ?_
        rintro e w7c ⟨rfl, rfl⟩
        generalize texS l2 at_ N = S at *
        generalize texE l2 at_ N = ER at *
        go_wp2_with (first
          | (at_builtin; refine wp_sapp (w := World.alloc w7c _) rfl (.tmp 74) (.tmp 76) rfl B u8 k ts rfl (HR7.out.t8.alloc _) w7c.heap.size 0 1 (.string S) rfl (cell_of_row _ _ _ _ _ _ (heap_alloc_new _ _)) rfl (by omega) (Nat.le_trans HR7.out.size (by simp)) ?_; intro g8 c8 w8 ho8 hg8 hb8; have HM8 : Hid (Mid w w8 g3 g4 cap3 cap4 n B g8 c8 u9 k l2 ts S) := HR7.out.app1 HGB.out HHB.out HSz.out ho8 hg8 hb8; clear ho8 hg8 hb8)
          | (at_builtin; refine wp_sapp (w := World.alloc w8 _) rfl (.tmp 78) (.tmp 80) rfl B u9 k ts rfl (HM8.out.t9.alloc _) w8.heap.size 0 1 (.string S) rfl (cell_of_row _ _ _ _ _ _ (heap_alloc_new _ _)) rfl (by omega) (Nat.le_trans HM8.out.size (by simp)) ?_; intro g9 c9 w9 ho9 hg9 hb9; have HR9 : Hid (PR w w9 g3 g4 cap3 cap4 n B (.slice (some ⟨g8, 0, none⟩) (k + 1) c8) (.slice (some ⟨g9, 0, none⟩) (k + 1) c9) (k + 1) l2 (ts ++ [.string S])) := HM8.out.app2 HGB.out HHB.out HSz.out ho9 hg9 hb9; clear ho9 hg9 hb9))
        exact ⟨⟨j + 1, k + 1, l2, ts ++ [.string S], by omega, by omega, by go_num, HR9.out⟩, by simp [intOf]; omega⟩
      · go_wp2
        exact ⟨⟨j + 1, k, l2, ts, by omega, by omega, by go_num, HR7.out⟩, by simp [intOf]; omega⟩
    · go_wp2_with fail
      generalize hwz : wr = wz at *
      clear hwz
      have HL2 : Hid (l'.length = n) := HR.out.len
      go_loopw [16] (fun i wr => ∃ (j : Nat) (lx : List Int), j ≤ n ∧ i = .int .i64 j ∧ lx.length = n ∧ OwnB wr g3 cap3 (lx ++ mk3) ∧ wz.grownBy wr (some g3)) (fun i _ => n - (intOf i).toNat)
      case atStart => exact ⟨0, l', Nat.zero_le _, rfl, HL2.out, HR.out.og, grown_refl _ _⟩
      case round =>
        obtain ⟨i, lx, hi, rfl, hlx, hox, hgx⟩ := hrel
        have HLX : Hid (lx.length = n) := hlx
        have HOX : Hid (OwnB wr g3 cap3 (lx ++ mk3)) := hox
        have HGX : Hid (wz.grownBy wr (some g3)) := hgx
        clear hlx hox hgx
        by_cases hin : i < n
        · have d1 := HOX.out.left i (by rw [HLX.out]; exact hin)
          have f1 := HOX.out.frozen i
          have hb := HOX.out.wf_left i
          have HQ : Hid (OwnB (wr.setCell ⟨g3, i, none⟩ (.int .u8 (255 - nth lx i))) g3 cap3 (lx.set i (255 - nth lx i) ++ mk3)) := by
            have := HOX.out.set i (255 - nth lx i) (by rw [List.length_append, HLX.out]; omega) (by omega)
            rw [List.set_append_left _ _ (by rw [HLX.out]; exact hin)] at this
            exact this
          go_wp2
          exact ⟨⟨i + 1, lx.set i (255 - nth lx i), by omega, by go_num, by rw [List.length_set]; exact HLX.out, HQ.out, grown_trans HGX.out grown_set⟩, by simp [intOf]; omega⟩
        · go_wp2_with fail
          generalize hwy : wr = wy at *
          clear hwy
          have HKy : Hid (Kp g3 g4 wz wy) := kp_left HGX.out
          have T8 : Hid (wy.ownsRow B 9 1 u8 k ts) := owns_kp HR.out.t8 HKy.out HGB.out.2 HHB.out.2
          have T9 : Hid (wy.ownsRow B 9 1 u9 k ts) := owns_kp HR.out.t9 HKy.out HGB.out.2 HHB.out.2
          have HBy : Hid (Below w.heap.size w wy) := HR.out.below.trans (HKy.out.below HGB.out.1 HHB.out.1 HR.out.below.size)
          have HFin : Hid (∀ wv, Below wy.heap.size wy wv → wv.cell? ⟨g3, n, none⟩ = some (.int .u8 77) ∧ wv.cell? ⟨g3, n + 1, none⟩ = some (.int .u8 78) ∧ wv.cell? ⟨g3, n + 2, none⟩ = some (.int .u8 79)) := fun wv hv => by
            have ho := HOX.out.on hv
            have e : (lx ++ mk3).length = n + 3 := by rw [List.length_append, HLX.out]; rfl
            refine ⟨?_, ?_, ?_⟩
            · rw [ho.cell n (by omega), ← HLX.out]; simp [nth, mk3]
            · rw [ho.cell (n + 1) (by omega), ← HLX.out]; simp [nth, mk3]
            · rw [ho.cell (n + 2) (by omega), ← HLX.out]; simp [nth, mk3]
          rcases HR.out.ne with ⟨rfl, rfl⟩ | ⟨g8, c8, g9, c9, rfl, rfl, _⟩
          · go_loop [17] (fun i => i = .int .i64 0) (fun _ => 0)
            case atStart => exact rfl
            case round =>
              obtain rfl := hrel
              obtain ⟨p1, p2, p3⟩ := HFin.out wy (Below.refl _ _)
              go_wp2
              go_ret
              exact ⟨rfl, HBy.out⟩
          · have HC8 : Hid (∀ wv, Below wy.heap.size wy wv → ∀ i, i < k → ∃ s : ByteArray, wv.cell? ⟨g8, i, none⟩ = some (.string s) ∧ wv.cell? ⟨g9, i, none⟩ = some (.string s)) := fun wv hv i hik => by
              have hlen : i < ts.length := by have := T8.out.1; omega
              obtain ⟨s, hs⟩ := HR.out.str ts[i] (List.getElem_mem hlen)
              have e : ts[i]? = some (.string s) := by rw [List.getElem?_eq_getElem hlen, hs]
              have q8 := T8.out.cells (g := g8) rfl i _ e
              have q9 := T9.out.cells (g := g9) rfl i _ e
              rw [Addr.add_lit, Nat.zero_add] at q8 q9
              exact ⟨s, (hv.cell (block_lt_of_cell q8)).trans q8, (hv.cell (block_lt_of_cell q9)).trans q9⟩
            go_loopw [17] (fun i wv => ∃ j : Nat, j ≤ k ∧ i = .int .i64 j ∧ Below wy.heap.size wy wv) (fun i _ => k - (intOf i).toNat)
            case atStart => exact ⟨0, Nat.zero_le _, rfl, Below.refl _ _⟩
            case round =>
              obtain ⟨i, hik, rfl, hbv⟩ := hrel
              have HBv : Hid (Below wy.heap.size wy wr) := hbv
              clear hbv
              by_cases hlt3 : i < k
              · obtain ⟨s, q8, q9⟩ := HC8.out wr HBv.out i hlt3
                go_wp2
                go_quiet (fail)
                go_wp2
                exact ⟨⟨i + 1, by omega, by go_num, below_drewN HBv.out _⟩, by simp [intOf]; omega⟩
              · obtain ⟨p1, p2, p3⟩ := HFin.out wr HBv.out
                go_wp2
                go_ret
                exact ⟨rfl, HBy.out.trans (HBv.out.mono HBy.out.size)⟩
end Go.Proofs.YtklgjagkgfbcfaaDoor

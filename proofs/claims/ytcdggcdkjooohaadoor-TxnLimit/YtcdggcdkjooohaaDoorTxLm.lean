import Derived.Test.YtcdggcdkjooohaaDoorTxE2
namespace Go.Proofs.YtcdggcdkjooohaaDoor
open Go.RowKit Go.Maps Rec

/-- so many blocks are put, from a place on -/
structure Lim (w0 w : World) (D : Dk) (T : Tx) (at_ k : Nat) (x : Int) : Prop where
  ses : Ses w0 w D T
  dom : ∀ j, (T.c j).isSome = decide (at_ ≤ j ∧ j < at_ + k)
  val : ∀ j q, T.c j = some q → q.x = one x
  cnt : (lst T.c T.nb).length = k
  us : T.us.length = k
  last : k = 96 → ∃ us95 v, T.us = us95 ++ [v] ∧ us95.length = 95 ∧ v.i = at_ + 95 ∧ v.old = none
theorem Lim.on {w0 w w' : World} {D : Dk} {T : Tx} {at_ k : Nat} {x : Int} (h : Lim w0 w D T at_ k x) (hb : Below w.heap.size w w') : Lim w0 w' D T at_ k x := ⟨h.ses.on hb, h.dom, h.val, h.cnt, h.us, h.last⟩
theorem Lim.free {w0 w : World} {D : Dk} {T : Tx} {at_ k : Nat} {x : Int} (h : Lim w0 w D T at_ k x) (j : Nat) (hj : ¬ (at_ ≤ j ∧ j < at_ + k)) : T.c j = none := by
  have := h.dom j
  rw [decide_eq_false hj] at this
  cases e : T.c j with
  | none => rfl
  | some q => rw [e] at this; cases this
theorem Lim.next {w0 w w' : World} {D : Dk} {T T' : Tx} {at_ k : Nat} {x : Int} {q : Bk} {u : Un} (h : Lim w0 w D T at_ k x) (hk : k < 96) (hn : at_ + k < T.nb) (s : Ses w0 w' D T') (hnb : T'.nb = T.nb) (hq : q.x = one x) (hc : T'.c = ups T.c (at_ + k) (some q)) (hu : T'.us = T.us ++ [u]) (hi : u.i = at_ + k) (ho : u.old = T.c (at_ + k)) : Lim w0 w' D T' at_ (k + 1) x := by
  have hf := h.free (at_ + k) (by omega)
  refine ⟨s, fun j => ?_, fun j q' hj => ?_, ?_, by rw [hu, List.length_append, h.us]; rfl, fun e => ⟨T.us, u, hu, by rw [h.us]; omega, by rw [hi]; omega, by rw [ho, hf]⟩⟩
  · rw [hc]
    by_cases e : j = at_ + k
    · subst e
      rw [ups_same]
      symm
      exact decide_eq_true (by omega)
    · rw [ups_other _ _ e, h.dom j]
      congr 1
      apply propext
      omega
  · rw [hc] at hj
    by_cases e : j = at_ + k
    · subst e
      rw [ups_same] at hj
      cases hj
      exact hq
    · rw [ups_other _ _ e] at hj
      exact h.val j q' hj
  · rw [hc, hnb, lst_len_ups hn, h.cnt, hf]; rfl
/-- behind the commit of ninety-six blocks -/
structure LmE (w w' : World) (d at_ : Nat) (x : Int) : Prop where
  dk : ∃ E ls, Mine w w' E ∧ E.d = d ∧ Rest E.abs 208 ls ∧ bck ls (at_ + 96) = one x ∧ E.wr = 194 ∧ E.fl = 4
/-- the ninety-five of them, behind the Back, and one at another place -/
structure L4 (w0 w : World) (D : Dk) (T : Tx) (at_ : Nat) (x : Int) : Prop where
  ses : Ses w0 w D T
  first : ∃ q, T.c at_ = some q ∧ q.x = one x
  last : ∃ q, T.c (at_ + 96) = some q ∧ q.x = one x
  off : T.c (at_ + 95) = none
  cnt : (lst T.c T.nb).length = 96
theorem L4.on {w0 w w' : World} {D : Dk} {T : Tx} {at_ : Nat} {x : Int} (h : L4 w0 w D T at_ x) (hb : Below w.heap.size w w') : L4 w0 w' D T at_ x := ⟨h.ses.on hb, h.first, h.last, h.off, h.cnt⟩
theorem make511 : ∃ o : Obj, ∀ w : World, (Instr.makeSlice 32 (.int .i64 511) (.int .i64 511)).run Tryd.prog w = .ok (.slice (some ⟨w.heap.size, 0, none⟩) 511 511) (w.alloc o) := by
  obtain ⟨i0, hi, hz0, hz1, hz2⟩ := info_parts info5
  exact ⟨.cells (madeCells #[.int .u8 0] 511) 5, fun w => run_make_row (P := Tryd.prog) 32 5 i0 _ Tryd.underlying32 hi hz0 hz1 rfl .i64 .i64 511 (by rw [hz2]; omega) (by omega) w⟩
set_option maxRecDepth 100000 in
set_option maxHeartbeats 32000000 in
theorem limit_any (w : World) (fr x : Int) (hx : 0 ≤ x ∧ x < 256) (hT : TabAt w) :
    Calls Tryd.prog 3 #[.int .i64 fr, .int .u8 x] w fun e w' => e = .returned (.bool true) ∧ Below w.heap.size w w' := by
  have HX : Hid (0 ≤ x ∧ x < 256) := hx
  have HTb : Hid (∀ wx, Below w.heap.size w wx → TabAt wx) := fun wx hb => hT.on hb
  have HF : Hid (Calls Tryd.prog 5 #[.int .i64 208] w fun e w' => ∃ D d0, e = .returned (.pointer (some ⟨d0, 0, none⟩)) ∧ D.d = d0 ∧ Mine w w' D ∧ Fresh D.abs 208 (fr6 208)) := by
    refine (fresh6 w 208 (by omega) (by omega)).mono ?_
    rintro e w' ⟨D, rfl, h1, h2⟩
    exact ⟨D, _, rfl, rfl, h1, h2⟩
  obtain ⟨at_, hat⟩ : ∃ at_ : Nat, 98 + fr % 14 = (at_ : Int) := ⟨(98 + fr % 14).toNat, by omega⟩
  have ha0 : 98 ≤ at_ := by omega
  have ha1 : at_ ≤ 111 := by omega
  obtain ⟨rm, hrm⟩ : ∃ rm : Nat, fr % 14 = (rm : Int) := ⟨(fr % 14).toNat, by omega⟩
  have HMo : Hid (∀ wx, Calls Tryd.prog 8 #[.int .i64 fr, .int .i64 14] wx fun e w' => e = .returned (.int .i64 (rm : Int)) ∧ wx = w') := fun wx => by
    have := mod_any wx fr 14 (by omega) (by omega)
    rw [show ((14 : Nat) : Int) = 14 from rfl, hrm] at this
    exact this
  have hra : wrap64 (98 + (rm : Int)) = (at_ : Int) := by rw [wrap64]; omega
  have hra2 : (98 : Int) + (rm : Int) = (at_ : Int) := by omega
  obtain ⟨y, hy⟩ : ∃ y, IntKind.u8.wrap (x + 1) = y := ⟨_, rfl⟩
  have HY : Hid (0 ≤ y ∧ y < 256) := by
    rw [← hy]
    simp [Hid, IntKind.wrap, IntKind.bits, IntKind.signed]
    omega
  have hptr := ptr_nil
  have hptT := ptr_nilT
  clear hT hx hat hrm
  go_enter Tryd.func3, Tryd.ntmps3
  go_upto_region 7 with (first
    | (go_at_call 5; refine HF.out.mono ?_; rintro e w1 ⟨D, d0, rfl, hd0, hm, hf⟩; have H1 : Hid (Mine w w1 D ∧ Fresh D.abs 208 (fr6 208) ∧ D.d = d0) := ⟨hm, hf, hd0⟩; clear hm hf hd0)
    | (go_at_call 6; refine (known_any w1 (HTb.out _ H1.out.1.bel)).mono ?_; rintro e w2 ⟨rfl, hb⟩; have H2 : Hid (Mine w w2 D) := H1.out.1.on hb; clear hb)
    | (go_at_call 7; refine (begin_ses w w2 D H2.out d0 H1.out.2.2).mono ?_; rintro e w3 ⟨T, rfl, hs, hc, hu, hb⟩; have H3 : Hid (Ses w w3 D T ∧ T.c = (fun _ => none) ∧ T.us = []) := ⟨hs, hc, hu⟩; clear hs hc hu hb))
  clear HF H2
  have HFr : Hid (Fresh D.abs 208 (fr6 208) ∧ D.d = d0) := ⟨H1.out.2.1, H1.out.2.2⟩
  obtain ⟨t0, ht0⟩ : ∃ t0, T.t = t0 := ⟨_, rfl⟩
  have H4 : Hid (Lim w w3 D T at_ 0 x ∧ T.t = t0 ∧ T.nb = 208) := by
    obtain ⟨s1, s2, s3⟩ := H3.out
    refine ⟨⟨s1, fun j => ?_, fun j q hj => ?_, ?_, by rw [s3]; rfl, fun e => by cases e⟩, ht0, by rw [← s1.nb]; exact H1.out.2.1.size⟩
    · rw [s2]; symm; exact decide_eq_false (by omega)
    · rw [s2] at hj; cases hj
    · rw [s2, lst_none]; rfl
  rw [ht0]
  clear ht0 H3 H1
  go_upto_region 8 with (go_at_call 8; refine (HMo.out _).mono ?_; rintro e w' ⟨rfl, rfl⟩)
  clear HMo
  go_upto_region 10 with fail
  go_loopw [8, 9] (fun s8 s9 wr => ∃ (k mm : Nat) (T : Tx), k ≤ 96 ∧ s9 = .int .i64 k ∧ s8 = .int .i64 mm ∧ ((k ≤ 95 ∧ mm = 0) ∨ (k = 96 ∧ mm = 95)) ∧ Lim w wr D T at_ k x ∧ T.t = t0 ∧ T.nb = 208) (fun _ s _ => 96 - (intOf s).toNat)
  case atStart => exact ⟨0, 0, T, by omega, rfl, rfl, .inl ⟨by omega, rfl⟩, H4.out⟩
  case round =>
    clear H4
    obtain ⟨k, mm, T, hk, rfl, rfl, hmm, hI⟩ := hrel
    have HI : Hid (Lim w wr D T at_ k x ∧ T.t = t0 ∧ T.nb = 208) := hI
    clear hI
    by_cases hlt : k < 96
    · have HW : Hid (∀ wx, Below wr.heap.size wr wx → ∀ g c, OwnB wx g c (one x) → Calls Tryd.prog 10 #[.pointer (some ⟨t0, 0, none⟩), .int .i64 ((at_ : Int) + (k : Int)), .slice (some ⟨g, 0, none⟩) 512 c] wx fun e w' => e = .returned (.int .i64 0) ∧ ∃ T', Lim w w' D T' at_ (k + 1) x ∧ T'.t = t0 ∧ T'.nb = 208) := fun wx hb g c ho => by
        obtain ⟨i1, i2, i3⟩ := HI.out
        have ix := i1.on hb
        have := ses_write w wx D T ix.ses (at_ + k) (by omega) (by omega) ⟨g, 0, none⟩ c (one x) ho.bytes (one_length _) (.inr (by rw [ix.cnt]; exact hlt)) (by rw [ix.us]; omega)
        rw [i2, Int.natCast_add] at this
        refine this.mono ?_
        rintro e w' ⟨rfl, T', q, u, s1, s2, s3, s4, s5, s6, s7, s8⟩
        exact ⟨rfl, T', ix.next hlt (by omega) s1 s2.nb s3 s5 s6 s7 s8, by rw [s2.t]; exact i2, by rw [s2.nb]; exact i3⟩
      have HMk : Hid (Calls Tryd.prog 9 #[.pointer (some ⟨t0, 0, none⟩)] wr fun e w' => e = .returned (.tuple #[.int .i64 (k : Int), .int .i64 0]) ∧ Below wr.heap.size wr w') := by
        have := mark_any wr T HI.out.1.ses.tx
        rw [HI.out.2.1, HI.out.1.us] at this
        exact this
      have hw1 : wrap64 ((at_ : Int) + (k : Int)) = (at_ : Int) + (k : Int) := by rw [wrap64]; omega
      by_cases hk95 : k = 95
      · have hb5 : ((k : Int) == 95) = true := by simp; omega
        have HK5 : Hid (k + 1 = 96 ∧ k = 95) := ⟨by omega, hk95⟩
        clear hk95 hmm
        go_wp2_with (first
          | (go_at_call 9; refine HMk.out.mono ?_; rintro e w5 ⟨rfl, hb⟩; have H5 : Hid (Below wr.heap.size wr w5) := hb; clear hb)
          | (go_at_call 11; refine (lblock_any _ x HX.out).mono ?_; rintro e w6 ⟨rfl, ho, hb⟩; have H6 : Hid (Below wr.heap.size wr w6 ∧ OwnB w6 w5.heap.size 512 (one x)) := ⟨H5.out.trans (hb.mono H5.out.size), ho⟩; clear ho hb)
          | (go_at_call 10; refine (HW.out w6 H6.out.1 _ _ H6.out.2).mono ?_; rintro e w7 ⟨rfl, T', hx⟩; have H7 : Hid (Lim w w7 D T' at_ (k + 1) x ∧ T'.t = t0 ∧ T'.nb = 208) := hx; clear hx))
        exact ⟨⟨k + 1, k, T', hlt, rfl, rfl, .inr HK5.out, H7.out⟩, by simp [intOf]; omega⟩
      · have hb5 : ((k : Int) == 95) = false := by simp; omega
        have hm0 : mm = 0 := by rcases hmm with ⟨_, e⟩ | ⟨e, _⟩ <;> omega
        have hk94 : k + 1 ≤ 95 := by omega
        have HM0 : Hid (mm = 0) := hm0
        clear hk95 hmm hm0
        go_wp2_with (first
          | (go_at_call 11; refine (lblock_any _ x HX.out).mono ?_; rintro e w6 ⟨rfl, ho, hb⟩; have H6 : Hid (Below wr.heap.size wr w6 ∧ OwnB w6 wr.heap.size 512 (one x)) := ⟨hb, ho⟩; clear ho hb)
          | (go_at_call 10; refine (HW.out w6 H6.out.1 _ _ H6.out.2).mono ?_; rintro e w7 ⟨rfl, T', hx⟩; have H7 : Hid (Lim w w7 D T' at_ (k + 1) x ∧ T'.t = t0 ∧ T'.nb = 208) := hx; clear hx))
        exact ⟨⟨k + 1, mm, T', hlt, rfl, rfl, .inl ⟨hk94, HM0.out⟩, H7.out⟩, by simp [intOf]; omega⟩
    · have hge : 96 ≤ k := by omega
      have hkk : k = 96 := by omega
      have hm95 : mm = 95 := by rcases hmm with ⟨e, _⟩ | ⟨_, e⟩ <;> omega
      have H8 : Hid (Lim w wr D T at_ 96 x ∧ T.t = t0 ∧ T.nb = 208) := by have := HI.out; rw [hkk] at this; exact this
      have HM5 : Hid (mm = 95) := hm95
      clear hkk hm95 hmm HI
      have q0 : wrap64 ((at_ : Int) + 96) = (at_ : Int) + 96 := by rw [wrap64]; omega
      have q1 : wrap64 ((at_ : Int) + 95) = (at_ : Int) + 95 := by rw [wrap64]; omega
      have HW1 : Hid (∀ wx, Below wr.heap.size wr wx → ∀ a c, Calls Tryd.prog 10 #[.pointer (some ⟨t0, 0, none⟩), .int .i64 ((at_ : Int) + 96), .slice a 512 c] wx fun e w' => e = .returned (.int .i64 60) ∧ Below wx.heap.size wx w') := fun wx hb a c => by
        obtain ⟨i1, i2, i3⟩ := H8.out
        have ix := i1.on hb
        have := twrite_big wx T D ix.ses.tx ix.ses.dk.disk ix.ses.d ix.ses.nb (at_ + 96) (by omega) (by omega) a c (ix.free _ (by omega)) ix.cnt
        rw [i2, Int.natCast_add] at this
        exact this
      have HW2 : Hid (∀ wx, Below wr.heap.size wr wx → ∀ v, Calls Tryd.prog 10 #[.pointer (some ⟨t0, 0, none⟩), .int .i64 97, v] wx fun e w' => e = .returned (.int .i64 31) ∧ Below wx.heap.size wx w') := fun wx hb v => by
        obtain ⟨i1, i2, i3⟩ := H8.out
        have ix := i1.on hb
        have := twrite_blk wx T D ix.ses.tx ix.ses.dk.disk ix.ses.d ix.ses.nb 97 (.inl (by omega)) v
        rw [i2] at this
        exact this
      have HW3 : Hid (∀ wx, Below wr.heap.size wr wx → ∀ a c, Calls Tryd.prog 10 #[.pointer (some ⟨t0, 0, none⟩), .int .i64 ((at_ : Int) + 96), .slice a 511 c] wx fun e w' => e = .returned (.int .i64 32) ∧ Below wx.heap.size wx w') := fun wx hb a c => by
        obtain ⟨i1, i2, i3⟩ := H8.out
        have ix := i1.on hb
        have := twrite_size wx T D ix.ses.tx ix.ses.dk.disk ix.ses.d ix.ses.nb (at_ + 96) (by omega) (by omega) a 511 c (by omega)
        rw [i2, Int.natCast_add] at this
        exact this
      have HW4 : Hid (∀ wx, Below wr.heap.size wr wx → ∀ g c, OwnB wx g c (one y) → Calls Tryd.prog 10 #[.pointer (some ⟨t0, 0, none⟩), .int .i64 (at_ : Int), .slice (some ⟨g, 0, none⟩) 512 c] wx fun e w' => e = .returned (.int .i64 0) ∧ ∃ T2, Ses w w' D T2 ∧ T2.t = t0 ∧ T2.nb = 208 ∧ (lst T2.c 208).length = 96 ∧ T2.us.length = 97 ∧ undo T2.c (T2.us.drop 95) = ups T.c (at_ + 95) none) := fun wx hb g c ho => by
        obtain ⟨i1, i2, i3⟩ := H8.out
        have ix := i1.on hb
        have hsm : (T.c at_).isSome = true := by rw [ix.dom at_]; exact decide_eq_true (by omega)
        have := ses_write w wx D T ix.ses at_ (by omega) (by omega) ⟨g, 0, none⟩ c (one y) ho.bytes (one_length _) (.inl hsm) (by rw [ix.us]; omega)
        rw [i2] at this
        refine this.mono ?_
        rintro e w' ⟨rfl, T2, q, u, s1, s2, s3, s4, s5, s6, s7, s8⟩
        refine ⟨rfl, T2, s1, by rw [s2.t]; exact i2, by rw [s2.nb]; exact i3, ?_, by rw [s6, List.length_append, ix.us]; rfl, ?_⟩
        · have hc := ix.cnt
          rw [i3] at hc
          rw [s5, lst_len_ups (by omega), hc, hsm]; rfl
        · obtain ⟨us95, v, v1, v2, v3, v4⟩ := ix.last rfl
          rw [s6, v1, List.append_assoc, List.drop_left' v2]
          show ups (ups T2.c u.i u.old) v.i v.old = _
          rw [s7, s8, s5, ups_back, v3, v4]
      have HWt : Hid (∀ wx T2, Ses w wx D T2 → T2.t = t0 → T2.nb = 208 → (lst T2.c 208).length = 96 → Calls Tryd.prog 12 #[.pointer (some ⟨t0, 0, none⟩)] wx fun e w' => ∃ va vc, e = .returned (.slice va 96 vc) ∧ Below wx.heap.size wx w') := fun wx T2 s1 s2 s3 s4 => by
        have := written_any wx T2 s1.tx
        rw [s2, s3] at this
        refine this.mono ?_
        rintro e w' ⟨v, rfl, hr, _, hb⟩
        rw [s4] at hr
        rcases hr.2 with ⟨_, h0⟩ | ⟨g, cap, cur, rfl, _⟩
        · omega
        · exact ⟨_, _, rfl, hb⟩
      have HBk : Hid (∀ wx T2, Ses w wx D T2 → T2.t = t0 → T2.nb = 208 → T2.us.length = 97 → undo T2.c (T2.us.drop 95) = ups T.c (at_ + 95) none → Calls Tryd.prog 13 #[.pointer (some ⟨t0, 0, none⟩), .int .i64 (mm : Int)] wx fun e w' => e = .returned (.int .i64 0) ∧ ∃ T3, Ses w w' D T3 ∧ T3.t = t0 ∧ T3.nb = 208 ∧ T3.c = ups T.c (at_ + 95) none ∧ (lst T3.c 208).length = 95 ∧ T3.us.length = 95) := fun wx T2 s1 s2 s3 s4 s5 => by
        obtain ⟨i1, i2, i3⟩ := H8.out
        have hsm : (T.c (at_ + 95)).isSome = true := by rw [i1.dom]; exact decide_eq_true (by omega)
        obtain ⟨q, hq⟩ := Option.isSome_iff_exists.1 hsm
        have hc := i1.cnt
        rw [i3] at hc
        have hdel := lst_len_del (n := 208) (by omega) hq
        have := tback_ok wx T2 s1.tx (by omega) 95 (by omega) (by rw [s5, s3]; omega)
        rw [s2] at this
        rw [show mm = 95 from HM5.out]
        refine this.mono ?_
        rintro e w' ⟨rfl, T3, h1, h2, h3, h4⟩
        rw [s5] at h3
        exact ⟨rfl, T3, s1.mv h1 h2, by rw [h2.t]; exact s2, by rw [h2.nb]; exact s3, h3, by rw [h3]; omega, by rw [h4, List.length_take, s4]; rfl⟩
      have HW5 : Hid (∀ wx T3, Ses w wx D T3 → T3.t = t0 → T3.nb = 208 → T3.c = ups T.c (at_ + 95) none → (lst T3.c 208).length = 95 → T3.us.length = 95 → ∀ g c, OwnB wx g c (one x) → Calls Tryd.prog 10 #[.pointer (some ⟨t0, 0, none⟩), .int .i64 ((at_ : Int) + 96), .slice (some ⟨g, 0, none⟩) 512 c] wx fun e w' => e = .returned (.int .i64 0) ∧ ∃ T4, L4 w w' D T4 at_ x ∧ T4.t = t0 ∧ T4.nb = 208) := fun wx T3 s1 s2 s3 s4 s5 s6 g c ho => by
        obtain ⟨i1, i2, i3⟩ := H8.out
        have hsm : (T.c at_).isSome = true := by rw [i1.dom]; exact decide_eq_true (by omega)
        obtain ⟨q0, hq0⟩ := Option.isSome_iff_exists.1 hsm
        have hf : T3.c (at_ + 96) = none := by rw [s4, ups_other _ _ (by omega)]; exact i1.free _ (by omega)
        have := ses_write w wx D T3 s1 (at_ + 96) (by omega) (by omega) ⟨g, 0, none⟩ c (one x) ho.bytes (one_length _) (.inr (by rw [s3]; omega)) (by omega)
        rw [s2, Int.natCast_add] at this
        refine this.mono ?_
        rintro e w' ⟨rfl, T4, q, u, h1, h2, h3, h4, h5, h6, h7, h8⟩
        refine ⟨rfl, T4, ⟨h1, ⟨q0, ?_, i1.val _ _ hq0⟩, ⟨q, by rw [h5, ups_same], h3⟩, ?_, ?_⟩, by rw [h2.t]; exact s2, by rw [h2.nb]; exact s3⟩
        · rw [h5, ups_other _ _ (by omega), s4, ups_other _ _ (by omega), hq0]
        · rw [h5, ups_other _ _ (by omega), s4, ups_same]
        · rw [h5, h2.nb, s3, lst_len_ups (by omega), s5, hf]; rfl
      have HW6 : Hid (∀ wx T4, L4 w wx D T4 at_ x → T4.t = t0 → T4.nb = 208 → ∀ a c, Calls Tryd.prog 10 #[.pointer (some ⟨t0, 0, none⟩), .int .i64 ((at_ : Int) + 95), .slice a 512 c] wx fun e w' => e = .returned (.int .i64 60) ∧ Below wx.heap.size wx w') := fun wx T4 ix s2 s3 a c => by
        have := twrite_big wx T4 D ix.ses.tx ix.ses.dk.disk ix.ses.d ix.ses.nb (at_ + 95) (by omega) (by omega) a c ix.off ix.cnt
        rw [s2, Int.natCast_add] at this
        exact this
      obtain ⟨o5, hmk5⟩ := make511
      have K1 : Hid True := trivial
      go_upto_region 21 with (first
        | (go_at_call 11; have hh := K1.out; clear hh; refine (lblock_any _ x HX.out).mono ?_; rintro e v1 ⟨rfl, ho, hb⟩; have B1 : Hid (Below wr.heap.size wr v1) := hb; clear ho hb K1)
        | (go_at_call 10; have hh := B1.out; clear hh; refine (HW1.out v1 B1.out _ _).mono ?_; rintro e v2 ⟨rfl, hb⟩; have C1 : Hid (Below wr.heap.size wr v2) := B1.out.trans (hb.mono B1.out.size); clear hb B1)
        | (go_at_call 11; have hh := C1.out; clear hh; refine (lblock_any _ x HX.out).mono ?_; rintro e v3 ⟨rfl, ho, hb⟩; have B2 : Hid (Below wr.heap.size wr v3) := C1.out.trans (hb.mono C1.out.size); clear ho hb C1)
        | (go_at_call 10; have hh := B2.out; clear hh; refine (HW2.out v3 B2.out _).mono ?_; rintro e v4 ⟨rfl, hb⟩; have C2 : Hid (Below wr.heap.size wr v4) := B2.out.trans (hb.mono B2.out.size); clear hb B2)
        | (go_at_call 10; have hh := C2.out; clear hh; refine (HW3.out _ (C2.out.alloc C2.out.size _) _ _).mono ?_; rintro e v5 ⟨rfl, hb⟩; have C3 : Hid (Below wr.heap.size wr v5) := (C2.out.alloc C2.out.size _).trans (hb.mono (C2.out.alloc C2.out.size _).size); clear hb C2)
        | (go_at_call 11; have hh := C3.out; clear hh; refine (lblock_any _ y HY.out).mono ?_; rintro e v6 ⟨rfl, ho, hb⟩; have B4 : Hid (Below wr.heap.size wr v6 ∧ OwnB v6 v5.heap.size 512 (one y)) := ⟨C3.out.trans (hb.mono C3.out.size), ho⟩; clear ho hb C3)
        | (go_at_call 10; have hh := B4.out; clear hh; refine (HW4.out v6 B4.out.1 _ _ B4.out.2).mono ?_; rintro e v7 ⟨rfl, T2, hx⟩; have C4 : Hid (Ses w v7 D T2 ∧ T2.t = t0 ∧ T2.nb = 208 ∧ (lst T2.c 208).length = 96 ∧ T2.us.length = 97 ∧ undo T2.c (T2.us.drop 95) = ups T.c (at_ + 95) none) := hx; clear hx B4)
        | (go_at_call 12; refine (HWt.out v7 T2 C4.out.1 C4.out.2.1 C4.out.2.2.1 C4.out.2.2.2.1).mono ?_; rintro e v8 ⟨va, vc, rfl, hb⟩; have C5 : Hid (Ses w v8 D T2) := C4.out.1.on hb; clear hb))
      clear HW1 HW2 HW3 HW4 HWt hmk5
      have C6 : Hid (Ses w v8 D T2 ∧ T2.t = t0 ∧ T2.nb = 208 ∧ T2.us.length = 97 ∧ undo T2.c (T2.us.drop 95) = ups T.c (at_ + 95) none) := ⟨C5.out, C4.out.2.1, C4.out.2.2.1, C4.out.2.2.2.2⟩
      clear C4 C5
      go_upto_region 23 with (first
        | (go_at_call 13; refine (HBk.out v8 T2 C6.out.1 C6.out.2.1 C6.out.2.2.1 C6.out.2.2.2.1 C6.out.2.2.2.2).mono ?_; rintro e v9 ⟨rfl, T3, hx⟩; have D1 : Hid (Ses w v9 D T3 ∧ T3.t = t0 ∧ T3.nb = 208 ∧ T3.c = ups T.c (at_ + 95) none ∧ (lst T3.c 208).length = 95 ∧ T3.us.length = 95) := hx; clear hx C6)
        | (go_at_call 11; have hh := D1.out; clear hh; refine (lblock_any _ x HX.out).mono ?_; rintro e v10 ⟨rfl, ho, hb⟩; have D2 : Hid (OwnB v10 v9.heap.size 512 (one x) ∧ Ses w v10 D T3 ∧ T3.t = t0 ∧ T3.nb = 208 ∧ T3.c = ups T.c (at_ + 95) none ∧ (lst T3.c 208).length = 95 ∧ T3.us.length = 95) := ⟨ho, D1.out.1.on hb, D1.out.2⟩; clear ho hb D1)
        | (go_at_call 10; have hh := D2.out; clear hh; refine (HW5.out v10 T3 D2.out.2.1 D2.out.2.2.1 D2.out.2.2.2.1 D2.out.2.2.2.2.1 D2.out.2.2.2.2.2.1 D2.out.2.2.2.2.2.2 _ _ D2.out.1).mono ?_; rintro e v11 ⟨rfl, T4, hx⟩; have D3 : Hid (L4 w v11 D T4 at_ x ∧ T4.t = t0 ∧ T4.nb = 208) := hx; clear hx D2)
        | (go_at_call 11; have hh := D3.out; clear hh; refine (lblock_any _ x HX.out).mono ?_; rintro e v12 ⟨rfl, ho, hb⟩; have D4 : Hid (L4 w v12 D T4 at_ x ∧ T4.t = t0 ∧ T4.nb = 208) := ⟨D3.out.1.on hb, D3.out.2⟩; clear ho hb D3)
        | (go_at_call 10; have hh := D4.out; clear hh; refine (HW6.out v12 T4 D4.out.1 D4.out.2.1 D4.out.2.2 _ _).mono ?_; rintro e v13 ⟨rfl, hb⟩; have D5 : Hid (L4 w v13 D T4 at_ x ∧ T4.t = t0 ∧ T4.nb = 208) := ⟨D4.out.1.on hb, D4.out.2⟩; clear hb D4))
      clear HBk HW5 HW6 q1
      have HRd : Hid (Calls Tryd.prog 14 #[.pointer (some ⟨t0, 0, none⟩), .int .i64 (at_ : Int)] v13 fun e w' => ∃ g cap, e = .returned (.tuple #[.slice (some ⟨g, 0, none⟩) 512 cap, .int .i64 0]) ∧ OwnB w' g cap (one x) ∧ Below v13.heap.size v13 w') := by
        obtain ⟨s1, s2, s3⟩ := D5.out
        obtain ⟨q, hq, hqx⟩ := s1.first
        have := tread_any v13 T4 D s1.ses.tx s1.ses.dk.disk s1.ses.d s1.ses.nb HFr.out.1.down at_ (by omega)
        rw [s2] at this
        refine this.mono ?_
        rintro e w' ⟨g, cap, rfl, _, ho, hb⟩
        rw [hq] at ho
        rw [← hqx]
        exact ⟨g, cap, rfl, ho, hb⟩
      go_upto_region 24 with (go_at_call 14; refine HRd.out.mono ?_; rintro e w23 ⟨g5, c5, rfl, ho, hb⟩; have H5 : Hid (OwnB w23 g5 c5 (one x) ∧ Below v13.heap.size v13 w23) := ⟨ho, hb⟩; clear ho hb)
      have HCv : Hid (∀ wx, Below w23.heap.size w23 wx → (convert 32 9 (.slice (some ⟨g5, 0, none⟩) 512 c5)).run Tryd.prog wx = .ok (.string (strOfNums (one x))) wx) := fun wx hb => str_opt (H5.out.1.bytes.on hb) (one_length _)
      have HD : Hid (Below w23.heap.size w23 w23.drew) := (Below.refl _ w23).drew
      have e0 := HCv.out _ HD.out
      have HCm : Hid (∀ wx, Below w23.heap.size w23 wx → Calls Tryd.prog 15 #[.pointer (some ⟨t0, 0, none⟩)] wx fun e w' => e = .returned (.int .i64 0) ∧ LmE w w' d0 at_ x) := fun wx hb => by
        obtain ⟨s1, s2, s3⟩ := D5.out
        have ix := (s1.on H5.out.2).on hb
        have sx := ix.ses
        obtain ⟨q, hq, hqx⟩ := ix.last
        have hl := ix.cnt
        have hne : lst T4.c T4.nb ≠ [] := fun e => by rw [e] at hl; cases hl
        have hF := HFr.out.1
        have := ses_commit w wx D T4 sx (HTb.out _ sx.bel) (by rw [sx.nb, s3]; omega) (hF.room _ (by rw [hl]; omega))
        rw [s2] at this
        refine this.mono ?_
        rintro e w' ⟨r, E, rfl, hM, hd, ho, _, h2⟩
        obtain ⟨rfl, hE⟩ := h2 hne
        rw [s3] at hE hl hne ⊢
        have hR := hF.rest (by rw [bck_fr6 _ _ (by omega)]; rfl)
        obtain ⟨m1, ⟨ls, m2, m3⟩, m4, m5⟩ := commit_math hR (by have := sx.tx.ok; rw [s3] at this; exact this) (fun i q hq => (sx.tx.blk i q hq).len) (by omega) (by omega) (by omega) hne hE
        refine ⟨by rw [m1], ⟨E, ls, hM, hd.trans HFr.out.2, m2, ?_, ?_, ?_⟩⟩
        · rw [m3 (at_ + 96) (by omega) (by omega), valC_some (q := q) hq, hqx]
        · have : E.abs.wr = 194 := by rw [m4, hF.wr, hl]
          exact this
        · have : E.abs.fl = 4 := by rw [m5, hF.fl]
          exact this
      clear HRd
      go_cut [131] (fun s wx => s = .bool false ∧ LmE w wx d0 at_ x)
      case first => as_aux_lemma =>
        refine wp_region_any (by as_aux_lemma => kernel_rfl) ?_
        try (change wpAny _ _ _ _ _ _ _ (World.drew _))
        refine wpAny_take (i := 0) (v := ?_) rfl (by as_aux_lemma => kernel_rfl) (by as_aux_lemma => kernel_rfl) (by as_aux_lemma => kernel_rfl) (fun _ _ _ h => h) (Or.inl ⟨by as_aux_lemma => kernel_rfl, ?_⟩) ?_
        rotate_left
        focus (intro w; go_simp; (try (with_reducible rfl)); done)
        go_simp
        refine wpAny_take (i := 1) (v := ?_) rfl (by as_aux_lemma => kernel_rfl) (by as_aux_lemma => kernel_rfl) (by as_aux_lemma => kernel_rfl) (fun _ _ _ h => h) (Or.inl ⟨by as_aux_lemma => kernel_rfl, ?_⟩) ?_
        rotate_left
        focus (intro w; go_simp; (try (with_reducible rfl)); done)
        go_simp
        refine wpAny_take (i := 2) (v := ?_) rfl (by as_aux_lemma => kernel_rfl) (by as_aux_lemma => kernel_rfl) (by as_aux_lemma => kernel_rfl) (fun _ _ _ h => h) (Or.inl ⟨by as_aux_lemma => kernel_rfl, ?_⟩) ?_
        rotate_left
        focus (intro w; go_simp; (try (with_reducible rfl)); done)
        go_simp
        refine wpAny_take (i := 3) (v := ?_) rfl (by as_aux_lemma => kernel_rfl) (by as_aux_lemma => kernel_rfl) (by as_aux_lemma => kernel_rfl) (fun _ _ _ h => h) (Or.inl ⟨by as_aux_lemma => kernel_rfl, ?_⟩) ?_
        rotate_left
        focus (intro w; go_simp; (try (with_reducible rfl)); done)
        go_simp
        refine wpAny_take (i := 5) (v := ?_) rfl (by as_aux_lemma => kernel_rfl) (by as_aux_lemma => kernel_rfl) (by as_aux_lemma => kernel_rfl) (fun _ _ _ h => h) (Or.inl ⟨by as_aux_lemma => kernel_rfl, ?_⟩) ?_
        rotate_left
        focus (intro w; go_simp; (try (with_reducible rfl)); done)
        go_simp
        refine wpAny_ready (rs := [4, 6]) (by as_aux_lemma => kernel_rfl) (by simp) ?_
        refine AllReady.cons rfl (fun K hK => ?_) ?_
        · go_simp
          try go_simp
          first
            | (refine hK _ _ ?_; clear hK K)
            | skip
          refine wpAny_ready (rs := [6]) (by as_aux_lemma => kernel_rfl) (by simp) ?_
          refine AllReady.cons rfl (fun K hK => ?_) ?_
          · (go_simp; go_at_call 11; refine (lblock_any _ x HX.out).mono ?_; rintro e w24 ⟨rfl, ho, hb⟩; have HB24 : Hid (Below w23.heap.size w23 w24) := HD.out.trans (hb.mono HD.out.size); have e1 := HCv.out _ HB24.out; have e2 : (convert 32 9 (.slice (some ⟨w23.heap.size, 0, none⟩) 512 512)).run Tryd.prog w24 = .ok (.string (strOfNums (one x))) w24 := str_opt ho.bytes (one_length _); clear ho hb)
            try go_simp
            first
              | (refine hK _ _ ?_; clear hK K)
              | skip
            refine wpAny_ready (rs := [7]) (by as_aux_lemma => kernel_rfl) (by simp) ?_
            refine AllReady.cons rfl (fun K hK => ?_) ?_
            · go_simp
              try go_simp
              first
                | (refine hK _ _ ?_; clear hK K)
                | skip
              refine wpAny_take (i := 8) (v := ?_) rfl (by as_aux_lemma => kernel_rfl) (by as_aux_lemma => kernel_rfl) (by as_aux_lemma => kernel_rfl) (fun _ _ _ h => h) (Or.inl ⟨by as_aux_lemma => kernel_rfl, ?_⟩) ?_
              rotate_left
              focus (intro w; go_simp; (try (with_reducible rfl)); done)
              go_simp
              refine wpAny_take (i := 9) (v := ?_) rfl (by as_aux_lemma => kernel_rfl) (by as_aux_lemma => kernel_rfl) (by as_aux_lemma => kernel_rfl) (fun _ _ _ h => h) (Or.inl ⟨by as_aux_lemma => kernel_rfl, ?_⟩) ?_
              rotate_left
              focus (intro w; go_simp; (try (with_reducible rfl)); done)
              go_simp
              refine wpAny_take (i := 10) (v := ?_) rfl (by as_aux_lemma => kernel_rfl) (by as_aux_lemma => kernel_rfl) (by as_aux_lemma => kernel_rfl) (fun _ _ _ h => h) (Or.inl ⟨by as_aux_lemma => kernel_rfl, ?_⟩) ?_
              rotate_left
              focus (intro w; go_simp; (try (with_reducible rfl)); done)
              go_simp
              refine wpAny_take (i := 11) (v := ?_) rfl (by as_aux_lemma => kernel_rfl) (by as_aux_lemma => kernel_rfl) (by as_aux_lemma => kernel_rfl) (fun _ _ _ h => h) (Or.inl ⟨by as_aux_lemma => kernel_rfl, ?_⟩) ?_
              rotate_left
              focus (intro w; go_simp; (try (with_reducible rfl)); done)
              go_simp
              refine wpAny_ready (rs := [12]) (by as_aux_lemma => kernel_rfl) (by simp) ?_
              refine AllReady.cons rfl (fun K hK => ?_) ?_
              · (go_simp; go_at_call 15; refine (HCm.out _ HB24.out).mono ?_; rintro e w25 ⟨rfl, hx⟩; have H25 : Hid (LmE w w25 d0 at_ x) := hx; clear hx)
                try go_simp
                first
                  | (refine hK _ _ ?_; clear hK K)
                  | skip
                refine wpAny_take (i := 13) (v := ?_) rfl (by as_aux_lemma => kernel_rfl) (by as_aux_lemma => kernel_rfl) (by as_aux_lemma => kernel_rfl) (fun _ _ _ h => h) (Or.inl ⟨by as_aux_lemma => kernel_rfl, ?_⟩) ?_
                rotate_left
                focus (intro w; go_simp; (try (with_reducible rfl)); done)
                go_simp
                refine wpAny_take (i := 14) (v := ?_) rfl (by as_aux_lemma => kernel_rfl) (by as_aux_lemma => kernel_rfl) (by as_aux_lemma => kernel_rfl) (fun _ _ _ h => h) (Or.inl ⟨by as_aux_lemma => kernel_rfl, ?_⟩) ?_
                rotate_left
                focus (intro w; go_simp; (try (with_reducible rfl)); done)
                go_simp
                refine wpAny_done (by kernel_rfl) ?_ _
                go_wp2
                go_meet
                case rel => exact ⟨by simp, H25.out⟩
              exact AllReady.nil
            exact AllReady.nil
          exact AllReady.nil
        refine AllReady.cons rfl (fun K hK => ?_) ?_
        · (go_simp; go_at_call 11; refine (lblock_any _ x HX.out).mono ?_; rintro e w24 ⟨rfl, ho, hb⟩; have HB24 : Hid (Below w23.heap.size w23 w24) := HD.out.trans (hb.mono HD.out.size); have e1 := HCv.out _ HB24.out; have e2 : (convert 32 9 (.slice (some ⟨w23.heap.size, 0, none⟩) 512 512)).run Tryd.prog w24 = .ok (.string (strOfNums (one x))) w24 := str_opt ho.bytes (one_length _); clear ho hb)
          try go_simp
          first
            | (refine hK _ _ ?_; clear hK K)
            | skip
          refine wpAny_ready (rs := [4, 7]) (by as_aux_lemma => kernel_rfl) (by simp) ?_
          refine AllReady.cons rfl (fun K hK => ?_) ?_
          · go_simp
            try go_simp
            first
              | (refine hK _ _ ?_; clear hK K)
              | skip
            refine wpAny_ready (rs := [7]) (by as_aux_lemma => kernel_rfl) (by simp) ?_
            refine AllReady.cons rfl (fun K hK => ?_) ?_
            · go_simp
              try go_simp
              first
                | (refine hK _ _ ?_; clear hK K)
                | skip
              refine wpAny_take (i := 8) (v := ?_) rfl (by as_aux_lemma => kernel_rfl) (by as_aux_lemma => kernel_rfl) (by as_aux_lemma => kernel_rfl) (fun _ _ _ h => h) (Or.inl ⟨by as_aux_lemma => kernel_rfl, ?_⟩) ?_
              rotate_left
              focus (intro w; go_simp; (try (with_reducible rfl)); done)
              go_simp
              refine wpAny_take (i := 9) (v := ?_) rfl (by as_aux_lemma => kernel_rfl) (by as_aux_lemma => kernel_rfl) (by as_aux_lemma => kernel_rfl) (fun _ _ _ h => h) (Or.inl ⟨by as_aux_lemma => kernel_rfl, ?_⟩) ?_
              rotate_left
              focus (intro w; go_simp; (try (with_reducible rfl)); done)
              go_simp
              refine wpAny_take (i := 10) (v := ?_) rfl (by as_aux_lemma => kernel_rfl) (by as_aux_lemma => kernel_rfl) (by as_aux_lemma => kernel_rfl) (fun _ _ _ h => h) (Or.inl ⟨by as_aux_lemma => kernel_rfl, ?_⟩) ?_
              rotate_left
              focus (intro w; go_simp; (try (with_reducible rfl)); done)
              go_simp
              refine wpAny_take (i := 11) (v := ?_) rfl (by as_aux_lemma => kernel_rfl) (by as_aux_lemma => kernel_rfl) (by as_aux_lemma => kernel_rfl) (fun _ _ _ h => h) (Or.inl ⟨by as_aux_lemma => kernel_rfl, ?_⟩) ?_
              rotate_left
              focus (intro w; go_simp; (try (with_reducible rfl)); done)
              go_simp
              refine wpAny_ready (rs := [12]) (by as_aux_lemma => kernel_rfl) (by simp) ?_
              refine AllReady.cons rfl (fun K hK => ?_) ?_
              · (go_simp; go_at_call 15; refine (HCm.out _ HB24.out).mono ?_; rintro e w25 ⟨rfl, hx⟩; have H25 : Hid (LmE w w25 d0 at_ x) := hx; clear hx)
                try go_simp
                first
                  | (refine hK _ _ ?_; clear hK K)
                  | skip
                refine wpAny_take (i := 13) (v := ?_) rfl (by as_aux_lemma => kernel_rfl) (by as_aux_lemma => kernel_rfl) (by as_aux_lemma => kernel_rfl) (fun _ _ _ h => h) (Or.inl ⟨by as_aux_lemma => kernel_rfl, ?_⟩) ?_
                rotate_left
                focus (intro w; go_simp; (try (with_reducible rfl)); done)
                go_simp
                refine wpAny_take (i := 14) (v := ?_) rfl (by as_aux_lemma => kernel_rfl) (by as_aux_lemma => kernel_rfl) (by as_aux_lemma => kernel_rfl) (fun _ _ _ h => h) (Or.inl ⟨by as_aux_lemma => kernel_rfl, ?_⟩) ?_
                rotate_left
                focus (intro w; go_simp; (try (with_reducible rfl)); done)
                go_simp
                refine wpAny_done (by kernel_rfl) ?_ _
                go_wp2
                go_meet
                case rel => exact ⟨by simp, H25.out⟩
              exact AllReady.nil
            exact AllReady.nil
          refine AllReady.cons rfl (fun K hK => ?_) ?_
          · go_simp
            try go_simp
            first
              | (refine hK _ _ ?_; clear hK K)
              | skip
            refine wpAny_ready (rs := [4]) (by as_aux_lemma => kernel_rfl) (by simp) ?_
            refine AllReady.cons rfl (fun K hK => ?_) ?_
            · go_simp
              try go_simp
              first
                | (refine hK _ _ ?_; clear hK K)
                | skip
              refine wpAny_take (i := 8) (v := ?_) rfl (by as_aux_lemma => kernel_rfl) (by as_aux_lemma => kernel_rfl) (by as_aux_lemma => kernel_rfl) (fun _ _ _ h => h) (Or.inl ⟨by as_aux_lemma => kernel_rfl, ?_⟩) ?_
              rotate_left
              focus (intro w; go_simp; (try (with_reducible rfl)); done)
              go_simp
              refine wpAny_take (i := 9) (v := ?_) rfl (by as_aux_lemma => kernel_rfl) (by as_aux_lemma => kernel_rfl) (by as_aux_lemma => kernel_rfl) (fun _ _ _ h => h) (Or.inl ⟨by as_aux_lemma => kernel_rfl, ?_⟩) ?_
              rotate_left
              focus (intro w; go_simp; (try (with_reducible rfl)); done)
              go_simp
              refine wpAny_take (i := 10) (v := ?_) rfl (by as_aux_lemma => kernel_rfl) (by as_aux_lemma => kernel_rfl) (by as_aux_lemma => kernel_rfl) (fun _ _ _ h => h) (Or.inl ⟨by as_aux_lemma => kernel_rfl, ?_⟩) ?_
              rotate_left
              focus (intro w; go_simp; (try (with_reducible rfl)); done)
              go_simp
              refine wpAny_take (i := 11) (v := ?_) rfl (by as_aux_lemma => kernel_rfl) (by as_aux_lemma => kernel_rfl) (by as_aux_lemma => kernel_rfl) (fun _ _ _ h => h) (Or.inl ⟨by as_aux_lemma => kernel_rfl, ?_⟩) ?_
              rotate_left
              focus (intro w; go_simp; (try (with_reducible rfl)); done)
              go_simp
              refine wpAny_ready (rs := [12]) (by as_aux_lemma => kernel_rfl) (by simp) ?_
              refine AllReady.cons rfl (fun K hK => ?_) ?_
              · (go_simp; go_at_call 15; refine (HCm.out _ HB24.out).mono ?_; rintro e w25 ⟨rfl, hx⟩; have H25 : Hid (LmE w w25 d0 at_ x) := hx; clear hx)
                try go_simp
                first
                  | (refine hK _ _ ?_; clear hK K)
                  | skip
                refine wpAny_take (i := 13) (v := ?_) rfl (by as_aux_lemma => kernel_rfl) (by as_aux_lemma => kernel_rfl) (by as_aux_lemma => kernel_rfl) (fun _ _ _ h => h) (Or.inl ⟨by as_aux_lemma => kernel_rfl, ?_⟩) ?_
                rotate_left
                focus (intro w; go_simp; (try (with_reducible rfl)); done)
                go_simp
                refine wpAny_take (i := 14) (v := ?_) rfl (by as_aux_lemma => kernel_rfl) (by as_aux_lemma => kernel_rfl) (by as_aux_lemma => kernel_rfl) (fun _ _ _ h => h) (Or.inl ⟨by as_aux_lemma => kernel_rfl, ?_⟩) ?_
                rotate_left
                focus (intro w; go_simp; (try (with_reducible rfl)); done)
                go_simp
                refine wpAny_done (by kernel_rfl) ?_ _
                go_wp2
                go_meet
                case rel => exact ⟨by simp, H25.out⟩
              exact AllReady.nil
            exact AllReady.nil
          exact AllReady.nil
        exact AllReady.nil
      case rest =>
      obtain ⟨rfl, hk9⟩ := hcut
      obtain ⟨E, ls, k1, k2, k3, k4, k5, k6⟩ := hk9.dk
      have HE : Hid (Mine w wc E) := k1
      have HRd : Hid (Calls Tryd.prog 16 #[.pointer (some ⟨d0, 0, none⟩), .int .i64 ((at_ : Int) + 96)] wc fun e w' => ∃ g cap, e = .returned (.tuple #[.slice (some ⟨g, 0, none⟩) 512 cap, .int .i64 0]) ∧ wc.heap.size ≤ g ∧ OwnB w' g cap (one x) ∧ Below wc.heap.size wc w') := by
        have hn : E.nb = 208 := k3.size
        have := read_yes wc E k1.disk (at_ + 96) (by omega) k3.down
        rw [k3.fullD, k4, k2, Int.natCast_add] at this
        exact this
      have HSt : Hid (∀ wx, Below wc.heap.size wc wx → Calls Tryd.prog 17 #[.pointer (some ⟨d0, 0, none⟩)] wx fun e w' => e = .returned (.tuple #[.int .i64 194, .int .i64 4]) ∧ Below wx.heap.size wx w') := fun wx hb => by
        have := steps_any wx E (k1.disk.on hb)
        rw [k5, k6, k2] at this
        exact this
      clear k1 k2 k3 k4 k5 k6 hk9
      go_upto_region 28 with (first
        | (go_at_call 16; refine HRd.out.mono ?_; rintro e w26 ⟨g8, c8, rfl, _, ho, hb⟩; have H26 : Hid (OwnB w26 g8 c8 (one x) ∧ Below wc.heap.size wc w26) := ⟨ho, hb⟩; clear ho hb)
        | (go_at_call 17; refine (HSt.out _ H26.out.2).mono ?_; rintro e w27 ⟨rfl, hb⟩; have H27a : Hid (Below w26.heap.size w26 w27) := hb; clear hb))
      have H27 : Hid (Below w.heap.size w w27) := HE.out.bel.trans ((H26.out.2.trans (H27a.out.mono H26.out.2.size)).mono HE.out.bel.size)
      have HCv : Hid (∀ wx, Below w27.heap.size w27 wx → (convert 32 9 (.slice (some ⟨g8, 0, none⟩) 512 c8)).run Tryd.prog wx = .ok (.string (strOfNums (one x))) wx) := fun wx hb => str_opt ((H26.out.1.bytes.on H27a.out).on hb) (one_length _)
      have HD : Hid (Below w27.heap.size w27 w27.drew) := (Below.refl _ w27).drew
      have e0 := HCv.out _ HD.out
      refine wp_region_any (by as_aux_lemma => kernel_rfl) ?_
      try (change wpAny _ _ _ _ _ _ _ (World.drew _))
      refine wpAny_take (i := 0) (v := ?_) rfl (by as_aux_lemma => kernel_rfl) (by as_aux_lemma => kernel_rfl) (by as_aux_lemma => kernel_rfl) (fun _ _ _ h => h) (Or.inl ⟨by as_aux_lemma => kernel_rfl, ?_⟩) ?_
      rotate_left
      focus (intro w; go_simp; (try (with_reducible rfl)); done)
      go_simp
      refine wpAny_take (i := 1) (v := ?_) rfl (by as_aux_lemma => kernel_rfl) (by as_aux_lemma => kernel_rfl) (by as_aux_lemma => kernel_rfl) (fun _ _ _ h => h) (Or.inl ⟨by as_aux_lemma => kernel_rfl, ?_⟩) ?_
      rotate_left
      focus (intro w; go_simp; (try (with_reducible rfl)); done)
      go_simp
      refine wpAny_take (i := 2) (v := ?_) rfl (by as_aux_lemma => kernel_rfl) (by as_aux_lemma => kernel_rfl) (by as_aux_lemma => kernel_rfl) (fun _ _ _ h => h) (Or.inl ⟨by as_aux_lemma => kernel_rfl, ?_⟩) ?_
      rotate_left
      focus (intro w; go_simp; (try (with_reducible rfl)); done)
      go_simp
      refine wpAny_take (i := 3) (v := ?_) rfl (by as_aux_lemma => kernel_rfl) (by as_aux_lemma => kernel_rfl) (by as_aux_lemma => kernel_rfl) (fun _ _ _ h => h) (Or.inl ⟨by as_aux_lemma => kernel_rfl, ?_⟩) ?_
      rotate_left
      focus (intro w; go_simp; (try (with_reducible rfl)); done)
      go_simp
      refine wpAny_take (i := 5) (v := ?_) rfl (by as_aux_lemma => kernel_rfl) (by as_aux_lemma => kernel_rfl) (by as_aux_lemma => kernel_rfl) (fun _ _ _ h => h) (Or.inl ⟨by as_aux_lemma => kernel_rfl, ?_⟩) ?_
      rotate_left
      focus (intro w; go_simp; (try (with_reducible rfl)); done)
      go_simp
      refine wpAny_ready (rs := [4, 6]) (by as_aux_lemma => kernel_rfl) (by simp) ?_
      refine AllReady.cons rfl (fun K hK => ?_) ?_
      · go_simp
        try go_simp
        first
          | (refine hK _ _ ?_; clear hK K)
          | skip
        refine wpAny_ready (rs := [6]) (by as_aux_lemma => kernel_rfl) (by simp) ?_
        refine AllReady.cons rfl (fun K hK => ?_) ?_
        · (go_simp; go_at_call 11; refine (lblock_any _ x HX.out).mono ?_; rintro e w28 ⟨rfl, ho, hb⟩; have HB28 : Hid (Below w27.heap.size w27 w28) := HD.out.trans (hb.mono HD.out.size); have f1 := HCv.out _ HB28.out; have f2 : (convert 32 9 (.slice (some ⟨w27.heap.size, 0, none⟩) 512 512)).run Tryd.prog w28 = .ok (.string (strOfNums (one x))) w28 := str_opt ho.bytes (one_length _); clear ho hb)
          try go_simp
          first
            | (refine hK _ _ ?_; clear hK K)
            | skip
          refine wpAny_ready (rs := [7]) (by as_aux_lemma => kernel_rfl) (by simp) ?_
          refine AllReady.cons rfl (fun K hK => ?_) ?_
          · go_simp
            try go_simp
            first
              | (refine hK _ _ ?_; clear hK K)
              | skip
            refine wpAny_take (i := 8) (v := ?_) rfl (by as_aux_lemma => kernel_rfl) (by as_aux_lemma => kernel_rfl) (by as_aux_lemma => kernel_rfl) (fun _ _ _ h => h) (Or.inl ⟨by as_aux_lemma => kernel_rfl, ?_⟩) ?_
            rotate_left
            focus (intro w; go_simp; (try (with_reducible rfl)); done)
            go_simp
            refine wpAny_take (i := 9) (v := ?_) rfl (by as_aux_lemma => kernel_rfl) (by as_aux_lemma => kernel_rfl) (by as_aux_lemma => kernel_rfl) (fun _ _ _ h => h) (Or.inl ⟨by as_aux_lemma => kernel_rfl, ?_⟩) ?_
            rotate_left
            focus (intro w; go_simp; (try (with_reducible rfl)); done)
            go_simp
            refine wpAny_take (i := 10) (v := ?_) rfl (by as_aux_lemma => kernel_rfl) (by as_aux_lemma => kernel_rfl) (by as_aux_lemma => kernel_rfl) (fun _ _ _ h => h) (Or.inl ⟨by as_aux_lemma => kernel_rfl, ?_⟩) ?_
            rotate_left
            focus (intro w; go_simp; (try (with_reducible rfl)); done)
            go_simp
            refine wpAny_take (i := 11) (v := ?_) rfl (by as_aux_lemma => kernel_rfl) (by as_aux_lemma => kernel_rfl) (by as_aux_lemma => kernel_rfl) (fun _ _ _ h => h) (Or.inl ⟨by as_aux_lemma => kernel_rfl, ?_⟩) ?_
            rotate_left
            focus (intro w; go_simp; (try (with_reducible rfl)); done)
            go_simp
            refine wpAny_take (i := 12) (v := ?_) rfl (by as_aux_lemma => kernel_rfl) (by as_aux_lemma => kernel_rfl) (by as_aux_lemma => kernel_rfl) (fun _ _ _ h => h) (Or.inl ⟨by as_aux_lemma => kernel_rfl, ?_⟩) ?_
            rotate_left
            focus (intro w; go_simp; (try (with_reducible rfl)); done)
            go_simp
            refine wpAny_take (i := 13) (v := ?_) rfl (by as_aux_lemma => kernel_rfl) (by as_aux_lemma => kernel_rfl) (by as_aux_lemma => kernel_rfl) (fun _ _ _ h => h) (Or.inl ⟨by as_aux_lemma => kernel_rfl, ?_⟩) ?_
            rotate_left
            focus (intro w; go_simp; (try (with_reducible rfl)); done)
            go_simp
            refine wpAny_take (i := 14) (v := ?_) rfl (by as_aux_lemma => kernel_rfl) (by as_aux_lemma => kernel_rfl) (by as_aux_lemma => kernel_rfl) (fun _ _ _ h => h) (Or.inl ⟨by as_aux_lemma => kernel_rfl, ?_⟩) ?_
            rotate_left
            focus (intro w; go_simp; (try (with_reducible rfl)); done)
            go_simp
            refine wpAny_take (i := 15) (v := ?_) rfl (by as_aux_lemma => kernel_rfl) (by as_aux_lemma => kernel_rfl) (by as_aux_lemma => kernel_rfl) (fun _ _ _ h => h) (Or.inl ⟨by as_aux_lemma => kernel_rfl, ?_⟩) ?_
            rotate_left
            focus (intro w; go_simp; (try (with_reducible rfl)); done)
            go_simp
            refine wpAny_take (i := 16) (v := ?_) rfl (by as_aux_lemma => kernel_rfl) (by as_aux_lemma => kernel_rfl) (by as_aux_lemma => kernel_rfl) (fun _ _ _ h => h) (Or.inl ⟨by as_aux_lemma => kernel_rfl, ?_⟩) ?_
            rotate_left
            focus (intro w; go_simp; (try (with_reducible rfl)); done)
            go_simp
            refine wpAny_take (i := 17) (v := ?_) rfl (by as_aux_lemma => kernel_rfl) (by as_aux_lemma => kernel_rfl) (by as_aux_lemma => kernel_rfl) (fun _ _ _ h => h) (Or.inl ⟨by as_aux_lemma => kernel_rfl, ?_⟩) ?_
            rotate_left
            focus (intro w; go_simp; (try (with_reducible rfl)); done)
            go_simp
            refine wpAny_take (i := 18) (v := ?_) rfl (by as_aux_lemma => kernel_rfl) (by as_aux_lemma => kernel_rfl) (by as_aux_lemma => kernel_rfl) (fun _ _ _ h => h) (Or.inl ⟨by as_aux_lemma => kernel_rfl, ?_⟩) ?_
            rotate_left
            focus (intro w; go_simp; (try (with_reducible rfl)); done)
            go_simp
            refine wpAny_done (by kernel_rfl) ?_ _
            go_wp2
            go_ret
            exact ⟨by simp, H27.out.trans (HB28.out.mono H27.out.size)⟩
          exact AllReady.nil
        exact AllReady.nil
      refine AllReady.cons rfl (fun K hK => ?_) ?_
      · (go_simp; go_at_call 11; refine (lblock_any _ x HX.out).mono ?_; rintro e w28 ⟨rfl, ho, hb⟩; have HB28 : Hid (Below w27.heap.size w27 w28) := HD.out.trans (hb.mono HD.out.size); have f1 := HCv.out _ HB28.out; have f2 : (convert 32 9 (.slice (some ⟨w27.heap.size, 0, none⟩) 512 512)).run Tryd.prog w28 = .ok (.string (strOfNums (one x))) w28 := str_opt ho.bytes (one_length _); clear ho hb)
        try go_simp
        first
          | (refine hK _ _ ?_; clear hK K)
          | skip
        refine wpAny_ready (rs := [4, 7]) (by as_aux_lemma => kernel_rfl) (by simp) ?_
        refine AllReady.cons rfl (fun K hK => ?_) ?_
        · go_simp
          try go_simp
          first
            | (refine hK _ _ ?_; clear hK K)
            | skip
          refine wpAny_ready (rs := [7]) (by as_aux_lemma => kernel_rfl) (by simp) ?_
          refine AllReady.cons rfl (fun K hK => ?_) ?_
          · go_simp
            try go_simp
            first
              | (refine hK _ _ ?_; clear hK K)
              | skip
            refine wpAny_take (i := 8) (v := ?_) rfl (by as_aux_lemma => kernel_rfl) (by as_aux_lemma => kernel_rfl) (by as_aux_lemma => kernel_rfl) (fun _ _ _ h => h) (Or.inl ⟨by as_aux_lemma => kernel_rfl, ?_⟩) ?_
            rotate_left
            focus (intro w; go_simp; (try (with_reducible rfl)); done)
            go_simp
            refine wpAny_take (i := 9) (v := ?_) rfl (by as_aux_lemma => kernel_rfl) (by as_aux_lemma => kernel_rfl) (by as_aux_lemma => kernel_rfl) (fun _ _ _ h => h) (Or.inl ⟨by as_aux_lemma => kernel_rfl, ?_⟩) ?_
            rotate_left
            focus (intro w; go_simp; (try (with_reducible rfl)); done)
            go_simp
            refine wpAny_take (i := 10) (v := ?_) rfl (by as_aux_lemma => kernel_rfl) (by as_aux_lemma => kernel_rfl) (by as_aux_lemma => kernel_rfl) (fun _ _ _ h => h) (Or.inl ⟨by as_aux_lemma => kernel_rfl, ?_⟩) ?_
            rotate_left
            focus (intro w; go_simp; (try (with_reducible rfl)); done)
            go_simp
            refine wpAny_take (i := 11) (v := ?_) rfl (by as_aux_lemma => kernel_rfl) (by as_aux_lemma => kernel_rfl) (by as_aux_lemma => kernel_rfl) (fun _ _ _ h => h) (Or.inl ⟨by as_aux_lemma => kernel_rfl, ?_⟩) ?_
            rotate_left
            focus (intro w; go_simp; (try (with_reducible rfl)); done)
            go_simp
            refine wpAny_take (i := 12) (v := ?_) rfl (by as_aux_lemma => kernel_rfl) (by as_aux_lemma => kernel_rfl) (by as_aux_lemma => kernel_rfl) (fun _ _ _ h => h) (Or.inl ⟨by as_aux_lemma => kernel_rfl, ?_⟩) ?_
            rotate_left
            focus (intro w; go_simp; (try (with_reducible rfl)); done)
            go_simp
            refine wpAny_take (i := 13) (v := ?_) rfl (by as_aux_lemma => kernel_rfl) (by as_aux_lemma => kernel_rfl) (by as_aux_lemma => kernel_rfl) (fun _ _ _ h => h) (Or.inl ⟨by as_aux_lemma => kernel_rfl, ?_⟩) ?_
            rotate_left
            focus (intro w; go_simp; (try (with_reducible rfl)); done)
            go_simp
            refine wpAny_take (i := 14) (v := ?_) rfl (by as_aux_lemma => kernel_rfl) (by as_aux_lemma => kernel_rfl) (by as_aux_lemma => kernel_rfl) (fun _ _ _ h => h) (Or.inl ⟨by as_aux_lemma => kernel_rfl, ?_⟩) ?_
            rotate_left
            focus (intro w; go_simp; (try (with_reducible rfl)); done)
            go_simp
            refine wpAny_take (i := 15) (v := ?_) rfl (by as_aux_lemma => kernel_rfl) (by as_aux_lemma => kernel_rfl) (by as_aux_lemma => kernel_rfl) (fun _ _ _ h => h) (Or.inl ⟨by as_aux_lemma => kernel_rfl, ?_⟩) ?_
            rotate_left
            focus (intro w; go_simp; (try (with_reducible rfl)); done)
            go_simp
            refine wpAny_take (i := 16) (v := ?_) rfl (by as_aux_lemma => kernel_rfl) (by as_aux_lemma => kernel_rfl) (by as_aux_lemma => kernel_rfl) (fun _ _ _ h => h) (Or.inl ⟨by as_aux_lemma => kernel_rfl, ?_⟩) ?_
            rotate_left
            focus (intro w; go_simp; (try (with_reducible rfl)); done)
            go_simp
            refine wpAny_take (i := 17) (v := ?_) rfl (by as_aux_lemma => kernel_rfl) (by as_aux_lemma => kernel_rfl) (by as_aux_lemma => kernel_rfl) (fun _ _ _ h => h) (Or.inl ⟨by as_aux_lemma => kernel_rfl, ?_⟩) ?_
            rotate_left
            focus (intro w; go_simp; (try (with_reducible rfl)); done)
            go_simp
            refine wpAny_take (i := 18) (v := ?_) rfl (by as_aux_lemma => kernel_rfl) (by as_aux_lemma => kernel_rfl) (by as_aux_lemma => kernel_rfl) (fun _ _ _ h => h) (Or.inl ⟨by as_aux_lemma => kernel_rfl, ?_⟩) ?_
            rotate_left
            focus (intro w; go_simp; (try (with_reducible rfl)); done)
            go_simp
            refine wpAny_done (by kernel_rfl) ?_ _
            go_wp2
            go_ret
            exact ⟨by simp, H27.out.trans (HB28.out.mono H27.out.size)⟩
          exact AllReady.nil
        refine AllReady.cons rfl (fun K hK => ?_) ?_
        · go_simp
          try go_simp
          first
            | (refine hK _ _ ?_; clear hK K)
            | skip
          refine wpAny_ready (rs := [4]) (by as_aux_lemma => kernel_rfl) (by simp) ?_
          refine AllReady.cons rfl (fun K hK => ?_) ?_
          · go_simp
            try go_simp
            first
              | (refine hK _ _ ?_; clear hK K)
              | skip
            refine wpAny_take (i := 8) (v := ?_) rfl (by as_aux_lemma => kernel_rfl) (by as_aux_lemma => kernel_rfl) (by as_aux_lemma => kernel_rfl) (fun _ _ _ h => h) (Or.inl ⟨by as_aux_lemma => kernel_rfl, ?_⟩) ?_
            rotate_left
            focus (intro w; go_simp; (try (with_reducible rfl)); done)
            go_simp
            refine wpAny_take (i := 9) (v := ?_) rfl (by as_aux_lemma => kernel_rfl) (by as_aux_lemma => kernel_rfl) (by as_aux_lemma => kernel_rfl) (fun _ _ _ h => h) (Or.inl ⟨by as_aux_lemma => kernel_rfl, ?_⟩) ?_
            rotate_left
            focus (intro w; go_simp; (try (with_reducible rfl)); done)
            go_simp
            refine wpAny_take (i := 10) (v := ?_) rfl (by as_aux_lemma => kernel_rfl) (by as_aux_lemma => kernel_rfl) (by as_aux_lemma => kernel_rfl) (fun _ _ _ h => h) (Or.inl ⟨by as_aux_lemma => kernel_rfl, ?_⟩) ?_
            rotate_left
            focus (intro w; go_simp; (try (with_reducible rfl)); done)
            go_simp
            refine wpAny_take (i := 11) (v := ?_) rfl (by as_aux_lemma => kernel_rfl) (by as_aux_lemma => kernel_rfl) (by as_aux_lemma => kernel_rfl) (fun _ _ _ h => h) (Or.inl ⟨by as_aux_lemma => kernel_rfl, ?_⟩) ?_
            rotate_left
            focus (intro w; go_simp; (try (with_reducible rfl)); done)
            go_simp
            refine wpAny_take (i := 12) (v := ?_) rfl (by as_aux_lemma => kernel_rfl) (by as_aux_lemma => kernel_rfl) (by as_aux_lemma => kernel_rfl) (fun _ _ _ h => h) (Or.inl ⟨by as_aux_lemma => kernel_rfl, ?_⟩) ?_
            rotate_left
            focus (intro w; go_simp; (try (with_reducible rfl)); done)
            go_simp
            refine wpAny_take (i := 13) (v := ?_) rfl (by as_aux_lemma => kernel_rfl) (by as_aux_lemma => kernel_rfl) (by as_aux_lemma => kernel_rfl) (fun _ _ _ h => h) (Or.inl ⟨by as_aux_lemma => kernel_rfl, ?_⟩) ?_
            rotate_left
            focus (intro w; go_simp; (try (with_reducible rfl)); done)
            go_simp
            refine wpAny_take (i := 14) (v := ?_) rfl (by as_aux_lemma => kernel_rfl) (by as_aux_lemma => kernel_rfl) (by as_aux_lemma => kernel_rfl) (fun _ _ _ h => h) (Or.inl ⟨by as_aux_lemma => kernel_rfl, ?_⟩) ?_
            rotate_left
            focus (intro w; go_simp; (try (with_reducible rfl)); done)
            go_simp
            refine wpAny_take (i := 15) (v := ?_) rfl (by as_aux_lemma => kernel_rfl) (by as_aux_lemma => kernel_rfl) (by as_aux_lemma => kernel_rfl) (fun _ _ _ h => h) (Or.inl ⟨by as_aux_lemma => kernel_rfl, ?_⟩) ?_
            rotate_left
            focus (intro w; go_simp; (try (with_reducible rfl)); done)
            go_simp
            refine wpAny_take (i := 16) (v := ?_) rfl (by as_aux_lemma => kernel_rfl) (by as_aux_lemma => kernel_rfl) (by as_aux_lemma => kernel_rfl) (fun _ _ _ h => h) (Or.inl ⟨by as_aux_lemma => kernel_rfl, ?_⟩) ?_
            rotate_left
            focus (intro w; go_simp; (try (with_reducible rfl)); done)
            go_simp
            refine wpAny_take (i := 17) (v := ?_) rfl (by as_aux_lemma => kernel_rfl) (by as_aux_lemma => kernel_rfl) (by as_aux_lemma => kernel_rfl) (fun _ _ _ h => h) (Or.inl ⟨by as_aux_lemma => kernel_rfl, ?_⟩) ?_
            rotate_left
            focus (intro w; go_simp; (try (with_reducible rfl)); done)
            go_simp
            refine wpAny_take (i := 18) (v := ?_) rfl (by as_aux_lemma => kernel_rfl) (by as_aux_lemma => kernel_rfl) (by as_aux_lemma => kernel_rfl) (fun _ _ _ h => h) (Or.inl ⟨by as_aux_lemma => kernel_rfl, ?_⟩) ?_
            rotate_left
            focus (intro w; go_simp; (try (with_reducible rfl)); done)
            go_simp
            refine wpAny_done (by kernel_rfl) ?_ _
            go_wp2
            go_ret
            exact ⟨by simp, H27.out.trans (HB28.out.mono H27.out.size)⟩
          exact AllReady.nil
        exact AllReady.nil
      exact AllReady.nil
end Go.Proofs.YtcdggcdkjooohaaDoor

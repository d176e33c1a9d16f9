import Derived.Test.YtaaeahpmnfifiaaDoorR14b
namespace Go.Proofs.YtaaeahpmnfifiaaDoor
open Go.RowKit Rec Sc
def oI (l : List Int) : Int := if rt l 0 then inc l 0 else 0
def oN (l : List Int) : ByteArray := if rt l 0 then eN l 0 else ⟨#[]⟩
theorem one_no {l : List Int} (h : rt l 0 = false) : oI l = 0 ∧ oN l = ⟨#[]⟩ ∧ rt l 0 = false := ⟨by rw [oI, h]; rfl, by rw [oN, h]; rfl, h⟩
theorem one_yes {l : List Int} {o : Option Ent} (_hl : l.length = 32) (ho : ∀ e, o = some e → Sc.good e) (h : l = cbl o) : rt l 0 = true ∧ dec l 0 = o := by
  refine cell_dec ho (fun i hi => ?_)
  rw [Nat.mul_zero, Nat.zero_add]
  conv => lhs; rw [h]
  exact nth_cbl o hi
theorem one_cbl {l : List Int} (hl : l.length = 32) (hw : ∀ i, 0 ≤ nth l i ∧ nth l i < 256) (h : rt l 0 = true) : l = cbl (dec l 0) ∧ ∀ e, dec l 0 = some e → Sc.good e := by
  obtain ⟨h1, h2⟩ := dec_cell hw h
  refine ⟨ext_nth (by rw [hl, cbl_len]) (fun i hi => ?_), h1⟩
  have := h2 i (by omega)
  rw [Nat.mul_zero, Nat.zero_add] at this
  rw [this, nth_cbl _ (by omega)]
set_option maxRecDepth 100000 in
set_option maxHeartbeats 4000000 in
theorem one_free (w : World) (b off c : Nat) (l : List Int) (hn : l.length = 32) (hO : Bytes w (some ⟨b, off, none⟩) l) (h0 : inc l 0 = 0) :
    Calls Tryd.prog 33 #[.slice (some ⟨b, off, none⟩) 32 c] w fun e w' => e = .returned (.tuple #[.int .i64 (oI l), .string (oN l), .bool (rt l 0)]) ∧ Below w.heap.size w w' := by
  have HW := hO.wf
  have hdn : dec l 0 = none := by rw [dec, if_pos h0]
  have HY : Hid (l = cbl none → oI l = 0 ∧ oN l = ⟨#[]⟩ ∧ rt l 0 = true) := fun e => by
    have := (one_yes (o := none) hn (fun e h => by cases h) e).1
    exact ⟨by rw [oI, this, if_pos rfl, h0], by rw [oN, this, if_pos rfl, eN, if_pos h0], this⟩
  have HZ : Hid (l ≠ cbl none → oI l = 0 ∧ oN l = ⟨#[]⟩ ∧ rt l 0 = false) := fun e => one_no (by
    cases h : rt l 0 with
    | false => rfl
    | true => have := (one_cbl hn HW h).1; rw [hdn] at this; exact absurd this e)
  have HNu : Hid (Calls Tryd.prog 43 #[.slice (some ⟨b, off, none⟩) 32 c] w fun e w' => e = .returned (.int .i64 0) ∧ Below w.heap.size w w') := by
    refine (number_any w b off c l hn hO).mono ?_
    rintro e w' ⟨rfl, q, rfl⟩
    have e0 : num l 0 4 = 0 := h0
    exact ⟨by rw [e0], drewN_below w q⟩
  have HFo : Hid (∀ wx, Below w.heap.size w wx → Calls Tryd.prog 35 #[.int .i64 0, .string ⟨#[]⟩] wx fun e w' => e = .returned (.slice (some ⟨wx.heap.size, 0, none⟩) 32 32) ∧ Bytes w' (some ⟨b, off, none⟩) l ∧ OwnB w' wx.heap.size 32 (cbl none) ∧ Below w.heap.size w w') := fun wx hb => by
    refine (form_zero wx ⟨#[]⟩).mono ?_
    rintro e w' ⟨rfl, h1, h2⟩
    exact ⟨rfl, (hO.on hb).on h2, h1, hb.trans (h2.mono hb.size)⟩
  clear hO hdn h0 HW
  go_enter Tryd.func33, Tryd.ntmps33
  go_upto_region 11 with (first
    | (go_at_call 43; refine HNu.out.mono ?_; rintro e w2 ⟨rfl, hb2⟩; have HB2 : Hid (Below w.heap.size w w2) := hb2; clear hb2)
    | (go_at_call 35; refine (HFo.out _ HB2.out).mono ?_; rintro e w3 ⟨rfl, h3⟩; obtain ⟨g3, hg3⟩ : ∃ g3, w2.heap.size = g3 := ⟨_, rfl⟩; rw [hg3] at h3; have H3 : Hid (Bytes w3 (some ⟨b, off, none⟩) l ∧ OwnB w3 g3 32 (cbl none) ∧ Below w.heap.size w w3) := h3; clear h3))
  go_wp2
  go_loopw [9] (fun i wr => ∃ k q : Nat, k ≤ 32 ∧ i = .int .i64 (k : Int) ∧ (∀ j, j < k → nth l j = nth (cbl none) j) ∧ wr = w3.drewN q) (fun i _ => 32 - (intOf i).toNat)
  case atStart => exact ⟨0, 0, Nat.zero_le _, rfl, fun j h => absurd h (by omega), rfl⟩
  case round =>
    obtain ⟨k, q, hk, rfl, hno, rfl⟩ := hrel
    have HN : Hid (∀ j, j < k → nth l j = nth (cbl none) j) := hno
    clear hno
    by_cases hlt : k < 32
    · have d1 := H3.out.1.cell (i := k) (by omega)
      have d2 := H3.out.2.1.cell k (by rw [cbl_len]; omega)
      have e1 : (w3.drewN q).cell? ⟨b, off + k, none⟩ = some (.int .u8 (nth l k)) := d1
      have e2 : (w3.drewN q).cell? ⟨g3, k, none⟩ = some (.int .u8 (nth (cbl none) k)) := d2
      by_cases he : nth l k = nth (cbl none) k
      · rw [← he] at d2 e2
        go_wp2
        go_region
        go_wp2
        go_roundw
        case rel =>
          refine ⟨k + 1, q + 1, by omega, by go_num, fun j hj => ?_, rfl⟩
          by_cases e : j = k
          · subst e; exact he
          · exact HN.out j (by omega)
        case measure => simp [intOf]; omega
      · obtain ⟨v2, hv2⟩ : ∃ v2, nth (cbl none) k = v2 := ⟨_, rfl⟩
        rw [hv2] at d2 e2
        have hne : ¬ nth l k = v2 := by rw [← hv2]; exact he
        have HR : Hid (oI l = 0 ∧ oN l = ⟨#[]⟩ ∧ rt l 0 = false) := HZ.out (fun e => he (by rw [← e]))
        clear he hv2
        go_wp2
        go_region
        go_wp2
        go_ret3
        exact ⟨by rw [HR.out.1, HR.out.2.1, HR.out.2.2]; rfl, H3.out.2.2.trans ((drewN_below w3 (q + 1)).mono H3.out.2.2.size)⟩
    · obtain rfl : k = 32 := by omega
      have HR : Hid (oI l = 0 ∧ oN l = ⟨#[]⟩ ∧ rt l 0 = true) := HY.out (ext_nth (by rw [hn, cbl_len]) (fun j hj => HN.out j (by omega)))
      go_wp2
      go_ret3
      exact ⟨by rw [HR.out.1, HR.out.2.1, HR.out.2.2]; rfl, H3.out.2.2.trans ((drewN_below w3 q).mono H3.out.2.2.size)⟩
set_option maxRecDepth 100000 in
set_option maxHeartbeats 4000000 in
theorem one_taken (w : World) (b off c : Nat) (l : List Int) (hn : l.length = 32) (hc : 32 ≤ c) (hO : Bytes w (some ⟨b, off, none⟩) l) (h0 : inc l 0 ≠ 0) :
    Calls Tryd.prog 33 #[.slice (some ⟨b, off, none⟩) 32 c] w fun e w' => e = .returned (.tuple #[.int .i64 (oI l), .string (oN l), .bool (rt l 0)]) ∧ Below w.heap.size w w' := by
  have HW := hO.wf
  have hib := inc_bd 0 HW
  have h1 : 1 ≤ inc l 0 := by omega
  obtain ⟨n, hnn⟩ : ∃ n : Nat, nth l 4 = n := ⟨(nth l 4).toNat, by have := HW 4; omega⟩
  have hnb : n < 256 := by have := HW 4; omega
  have hds : dec l 0 = some ⟨nmc l 0, inc l 0⟩ := by rw [dec, if_neg h0]
  have hrt : rt l 0 = true → l = cbl (some ⟨nmc l 0, inc l 0⟩) ∧ Sc.good ⟨nmc l 0, inc l 0⟩ ∧ (nmc l 0).size = n ∧ nmc l 0 = strOfNums (fld l 5 n) := fun h => by
    obtain ⟨e1, e2⟩ := one_cbl hn HW h
    rw [hds] at e1
    have hg := e2 _ hds
    have hz : (nmc l 0).size = n := by
      have : nth l 4 = nth (cbl (some ⟨nmc l 0, inc l 0⟩)) 4 := by rw [← e1]
      rw [nth_cbl _ (by omega)] at this
      have e : cbo (some ⟨nmc l 0, inc l 0⟩) 4 = ((nmc l 0).size : Int) := by
        show cb _ 4 = _
        rw [cb, if_neg (by omega), if_pos rfl]
      rw [e, hnn] at this
      omega
    refine ⟨e1, hg, hz, ?_⟩
    have ht : tlc l 0 = n := by
      have h8 : rt l 0 = true := h
      rw [rt, if_neg h0, Bool.and_eq_true] at h8
      have := of_decide_eq_true h8.1
      rw [Nat.mul_zero, Nat.zero_add, hnn] at this
      omega
    rw [nmc, ht]; rfl
  have HNu : Hid (Calls Tryd.prog 43 #[.slice (some ⟨b, off, none⟩) 32 c] w fun e w' => e = .returned (.int .i64 (inc l 0)) ∧ Below w.heap.size w w' ∧ w'.cell? ⟨b, off + 4, none⟩ = some (.int .u8 (n : Int)) ∧ (n ≤ 27 → (convert 25 9 (.slice (some ⟨b, off + 5, none⟩) n (c - 5))).run Tryd.prog w' = .ok (.string (strOfNums (fld l 5 n))) w')) := by
    refine (number_any w b off c l hn hO).mono ?_
    rintro e w' ⟨rfl, q, rfl⟩
    have hb := drewN_below w q
    refine ⟨rfl, hb, ?_, fun h27 => ?_⟩
    · have := (hO.on hb).cell (i := 4) (by omega)
      rw [hnn] at this; exact this
    · exact str_of ((hO.on hb).field (A := 5) (N := n) (by omega) (off + 5) (.inl rfl)) (fld_length _ _ _ (by omega))
  by_cases h27 : n ≤ 27
  · obtain ⟨nm, hnm⟩ : ∃ nm, strOfNums (fld l 5 n) = nm := ⟨_, rfl⟩
    have hsz : nm.size ≤ 27 := by rw [← hnm, strOfNums_size, fld_length _ _ _ (by omega)]; exact h27
    rw [hnm] at HNu
    rw [hnm] at hrt
    have HNa : Hid (∀ wx, Calls Tryd.prog 34 #[.string nm] wx fun e w' => e = .returned (.bool (Pa.name nm.data.toList)) ∧ wx = w') := fun wx => rname_any wx nm (by omega)
    cases hN : Pa.name nm.data.toList with
    | false =>
      have HR : Hid (oI l = 0 ∧ oN l = ⟨#[]⟩ ∧ rt l 0 = false) := one_no (by
        cases h : rt l 0 with
        | false => rfl
        | true => obtain ⟨_, hg, _, he⟩ := hrt h; have := hg.1; dsimp only at this; rw [he, hN] at this; cases this)
      rw [hN] at HNa
      have h27' : ¬ (27 : Int) < (n : Int) := by omega
      have hI0 : ¬ inc l 0 = 0 := h0
      clear hrt hO HW hds
      generalize inc l 0 = ino at *
      go_enter Tryd.func33, Tryd.ntmps33
      go_wp2_with (first
        | (go_at_call 43; refine HNu.out.mono ?_; rintro e w2 ⟨rfl, hb2, c4, hcv⟩; have HB2 : Hid (Below w.heap.size w w2) := hb2; have hcv2 := hcv h27; clear hb2 hcv)
        | (go_at_call 34; refine (HNa.out _).mono ?_; rintro e w' ⟨rfl, rfl⟩))
      go_ret3
      exact ⟨by rw [HR.out.1, HR.out.2.1, HR.out.2.2]; rfl, HB2.out⟩
    | true =>
      rw [hN] at HNa
      have hgood : Sc.good ⟨nm, inc l 0⟩ := ⟨hN, h1, hib.2⟩
      have HY : Hid (l = cbl (some ⟨nm, inc l 0⟩) → oI l = inc l 0 ∧ oN l = nm ∧ rt l 0 = true) := fun e => by
        obtain ⟨r1, r2⟩ := one_yes (o := some ⟨nm, inc l 0⟩) hn (fun e h => by cases h; exact hgood) e
        rw [hds] at r2
        have r3 : nmc l 0 = nm := by cases r2; rfl
        exact ⟨by rw [oI, r1, if_pos rfl], by rw [oN, r1, if_pos rfl, eN, if_neg h0, r3], r1⟩
      have HZ : Hid (l ≠ cbl (some ⟨nm, inc l 0⟩) → oI l = 0 ∧ oN l = ⟨#[]⟩ ∧ rt l 0 = false) := fun e => one_no (by
        cases h : rt l 0 with
        | false => rfl
        | true => obtain ⟨r1, _, _, r4⟩ := hrt h; rw [r4] at r1; exact absurd r1 e)
      have HFo : Hid (∀ wx, Below w.heap.size w wx → Calls Tryd.prog 35 #[.int .i64 (inc l 0), .string nm] wx fun e w' => e = .returned (.slice (some ⟨wx.heap.size, 0, none⟩) 32 32) ∧ Bytes w' (some ⟨b, off, none⟩) l ∧ OwnB w' wx.heap.size 32 (cbl (some ⟨nm, inc l 0⟩)) ∧ Below w.heap.size w w') := fun wx hb => by
        refine (rform_any wx nm (inc l 0) hsz h1 hib.2).mono ?_
        rintro e w' ⟨rfl, h1, h2⟩
        exact ⟨rfl, (hO.on hb).on h2, h1, hb.trans (h2.mono hb.size)⟩
      have h27' : ¬ (27 : Int) < (n : Int) := by omega
      have hI0 : ¬ inc l 0 = 0 := h0
      clear hrt hO HW hds hgood hN
      generalize inc l 0 = ino at *
      go_enter Tryd.func33, Tryd.ntmps33
      go_upto_region 11 with (first
        | (go_at_call 43; refine HNu.out.mono ?_; rintro e w2 ⟨rfl, hb2, c4, hcv⟩; have HB2 : Hid (Below w.heap.size w w2) := hb2; have hcv2 := hcv h27; clear hb2 hcv)
        | (go_at_call 34; refine (HNa.out _).mono ?_; rintro e w' ⟨rfl, rfl⟩)
        | (go_at_call 35; refine (HFo.out _ HB2.out).mono ?_; rintro e w3 ⟨rfl, h3⟩; obtain ⟨g3, hg3⟩ : ∃ g3, w2.heap.size = g3 := ⟨_, rfl⟩; rw [hg3] at h3; have H3 : Hid (Bytes w3 (some ⟨b, off, none⟩) l ∧ OwnB w3 g3 32 (cbl (some ⟨nm, ino⟩)) ∧ Below w.heap.size w w3) := h3; clear h3))
      clear hcv2 c4
      go_wp2
      go_loopw [9] (fun i wr => ∃ k q : Nat, k ≤ 32 ∧ i = .int .i64 (k : Int) ∧ (∀ j, j < k → nth l j = nth (cbl (some ⟨nm, ino⟩)) j) ∧ wr = w3.drewN q) (fun i _ => 32 - (intOf i).toNat)
      case atStart => exact ⟨0, 0, Nat.zero_le _, rfl, fun j h => absurd h (by omega), rfl⟩
      case round =>
        obtain ⟨k, q, hk, rfl, hno, rfl⟩ := hrel
        have HN : Hid (∀ j, j < k → nth l j = nth (cbl (some ⟨nm, ino⟩)) j) := hno
        clear hno
        by_cases hlt : k < 32
        · have d1 := H3.out.1.cell (i := k) (by omega)
          have d2 := H3.out.2.1.cell k (by rw [cbl_len]; omega)
          have e1 : (w3.drewN q).cell? ⟨b, off + k, none⟩ = some (.int .u8 (nth l k)) := d1
          have e2 : (w3.drewN q).cell? ⟨g3, k, none⟩ = some (.int .u8 (nth (cbl (some ⟨nm, ino⟩)) k)) := d2
          by_cases he : nth l k = nth (cbl (some ⟨nm, ino⟩)) k
          · rw [← he] at d2 e2
            go_wp2
            go_region
            go_wp2
            go_roundw
            case rel =>
              refine ⟨k + 1, q + 1, by omega, by go_num, fun j hj => ?_, rfl⟩
              by_cases e : j = k
              · subst e; exact he
              · exact HN.out j (by omega)
            case measure => simp [intOf]; omega
          · obtain ⟨v2, hv2⟩ : ∃ v2, nth (cbl (some ⟨nm, ino⟩)) k = v2 := ⟨_, rfl⟩
            rw [hv2] at d2 e2
            have hne : ¬ nth l k = v2 := by rw [← hv2]; exact he
            have HR : Hid (oI l = 0 ∧ oN l = ⟨#[]⟩ ∧ rt l 0 = false) := HZ.out (fun e => he (by rw [← e]))
            clear he hv2
            go_wp2
            go_region
            go_wp2
            go_ret3
            exact ⟨by rw [HR.out.1, HR.out.2.1, HR.out.2.2]; rfl, H3.out.2.2.trans ((drewN_below w3 (q + 1)).mono H3.out.2.2.size)⟩
        · obtain rfl : k = 32 := by omega
          have HR : Hid (oI l = ino ∧ oN l = nm ∧ rt l 0 = true) := HY.out (ext_nth (by rw [hn, cbl_len]) (fun j hj => HN.out j (by omega)))
          go_wp2
          go_ret3
          exact ⟨by rw [HR.out.1, HR.out.2.1, HR.out.2.2]; rfl, H3.out.2.2.trans ((drewN_below w3 q).mono H3.out.2.2.size)⟩
  · have HR : Hid (oI l = 0 ∧ oN l = ⟨#[]⟩ ∧ rt l 0 = false) := one_no (by
      cases h : rt l 0 with
      | false => rfl
      | true => obtain ⟨_, hg, hz, _⟩ := hrt h; have := (name_ne hg.1).2.1; dsimp only at this; omega)
    have h27' : (27 : Int) < (n : Int) := by omega
    have hI0 : ¬ inc l 0 = 0 := h0
    clear hrt hO HW hds
    generalize inc l 0 = ino at *
    go_enter Tryd.func33, Tryd.ntmps33
    go_wp2_with (first
      | (go_at_call 43; refine HNu.out.mono ?_; rintro e w2 ⟨rfl, hb2, c4, hcv⟩; have HB2 : Hid (Below w.heap.size w w2) := hb2; clear hb2 hcv))
    go_ret3
    exact ⟨by rw [HR.out.1, HR.out.2.1, HR.out.2.2]; rfl, HB2.out⟩
end Go.Proofs.YtaaeahpmnfifiaaDoor

import Derived.Test.YtklffjagdhbjcaaDoorTurnsA
namespace Go.Proofs.YtklffjagdhbjcaaDoor
open Go.RowKit
open Crc (W)

set_option maxRecDepth 100000 in
set_option maxHeartbeats 1600000 in
theorem turns_le (w : World) (a0 a1 a2 : Option Addr) (n c np cp m cm : Nat) (l ps ms : List Int) (hn : l.length = n) (hnp : ps.length = np) (hm : ms.length = m) (hcm : m ≤ cm) (hcp : np ≤ cp)
    (hT : TabAt w) (hB : Bytes w a0 l) (hz : a0 = none → c = 0) (hP : Ints w a1 ps) (hz1 : a1 = none → cp = 0) (hM : Bytes w a2 ms) (hz2 : a2 = none → cm = 0)
    (hs0 : n ≤ 1048576) (hs1 : np ≤ 1048576) (hs2 : m ≤ 1048576) (h300 : np ≤ 300) :
    Calls Tryd.prog 5 #[.slice a0 n c, .slice a1 np cp, .slice a2 m cm] w fun e w' => e = .returned (.bool true) ∧ Below w.heap.size w w' := by
  have HT : Hid (TabAt w) := hT
  have HB : Hid (Bytes w a0 l) := hB
  have HZ : Hid (a0 = none → c = 0) := hz
  have HN : Hid (l.length = n) := hn
  have HP : Hid (Ints w a1 ps) := hP
  have HZ1 : Hid (a1 = none → cp = 0) := hz1
  have HNP : Hid (ps.length = np) := hnp
  have HM : Hid (Bytes w a2 ms) := hM
  have HZ2 : Hid (a2 = none → cm = 0) := hz2
  have HNM : Hid (ms.length = m) := hm
  clear hT hB hz hn hP hz1 hnp hM hz2 hm
  go_enter Tryd.func5, Tryd.ntmps5
  go_wp2_with fail
  refine (known_tab w HT.out).mono ?_
  rintro e w1 ⟨rfl, hb1, ht1⟩
  go_wp2_with (at_builtin; refine wp_copy w1 rfl _ _ rfl rfl a0 n c l rfl HN.out (HB.out.on hb1) HZ.out (by omega) ?_; intro g cap w2 hg hown hb2)
  have HR : Hid (TRel w w2 g cap n l) := ⟨hown, HN.out, chain hb1 hb2⟩
  have hgw : w.heap.size ≤ g := Nat.le_trans hb1.size hg
  have HT2 : Hid (TabAt w2) := HT.out.on HR.out.below
  clear hown hb1 hb2 ht1 hg
  refine (of_any _ _ n cap l HN.out HT2.out HR.out.mine.bytes).mono ?_
  rintro e w3 ⟨rfl, rfl⟩
  go_wp2_with fail
  have HS : Hid (Value.int .u32 (U (Crc.crc l)) = Value.int .u32 (U (Crc.crc l))) := rfl
  generalize hv8 : Value.int .u32 (U (Crc.crc l)) = v8
  have HV8 : Hid (v8 = Value.int .u32 (U (Crc.crc l))) := hv8.symm
  clear hv8 HS
  go_loopw [8, 30] (fun t i wr => ∃ (k : Nat) (own : List Int), k ≤ np ∧ i = .int .i64 k ∧ TRel w wr g cap n own ∧ t = .int .u32 (U (Crc.crc own))) (fun _ i _ => np - (intOf i).toNat)
  case atStart => exact ⟨0, l, Nat.zero_le _, rfl, HR.out, HV8.out⟩
  case round =>
    obtain ⟨k, own, hk, rfl, hr, rfl⟩ := hrel
    have HR1 : Hid (TRel w wr g cap n own) := hr
    clear hr
    by_cases hlt : k < np
    · obtain ⟨p, hp⟩ : ∃ p : Int, p = nth ps k := ⟨_, rfl⟩
      have hcell : ∃ b off, a1 = some ⟨b, off, none⟩ ∧ wr.cell? ⟨b, off + k, none⟩ = some (.int .i64 p) := by
        rcases (HP.out.on HR1.out.below).at_ with e | ⟨b, off, e, hc⟩
        · have := HNP.out; rw [e] at this; simp at this; omega
        · exact ⟨b, off, e, by rw [hp]; exact hc k (by rw [HNP.out]; exact hlt)⟩
      have hpb := HP.out.wf k
      rw [← hp] at hpb
      clear hp
      obtain ⟨b, off, hab, hcc⟩ := hcell
      rw [hab]
      go_upto_if 41 with fail
      go_cut [11] (fun s11 wx => wx = wr ∧ ∃ A : Nat, A ≤ n ∧ s11 = .int .i64 A)
      case first =>
        have hab : (p.tmod ((n : Int) + 1)).natAbs ≤ n := by
          have h1 := Int.natAbs_tmod p ((n : Int) + 1)
          have h2 : p.natAbs % ((n : Int) + 1).natAbs < ((n : Int) + 1).natAbs := Nat.mod_lt _ (by omega)
          omega
        by_cases hneg : p.tmod ((n : Int) + 1) < 0
        · go_wp2
          go_meet
          case rel => exact ⟨rfl, (p.tmod ((n : Int) + 1)).natAbs, hab, by congr 1; omega⟩
        · go_wp2
          go_meet
          case rel => exact ⟨rfl, (p.tmod ((n : Int) + 1)).natAbs, hab, by congr 1; omega⟩
      case rest =>
        obtain ⟨rfl, A, hA, rfl⟩ := hcut
        go_upto_region 11 with fail
        go_cut [12] (fun s12 wx => wx = wc ∧ ∃ mm : Nat, mm + A ≤ n ∧ mm ≤ m ∧ s12 = .int .i64 mm)
        case first =>
          go_wp2
          · go_meet
            case rel => exact ⟨rfl, k % 9, by omega, by omega, by congr 1⟩
          · go_meet
            case rel => exact ⟨rfl, m, by omega, by omega, rfl⟩
          · go_meet
            case rel => exact ⟨rfl, n - A, by omega, by omega, by congr 1; omega⟩
        case rest =>
          obtain ⟨rfl, mm, hmA, hmm, rfl⟩ := hcut
          generalize hwo : wc = wo at *
          clear hwo
          go_upto_region 12 with fail
          have hcap : n ≤ cap := by have := HR1.out.mine.room; rw [HR1.out.len] at this; exact this
          obtain ⟨own', hown'⟩ : ∃ own' : List Int, own' = own.take A ++ ms.take mm ++ own.drop (A + mm) := ⟨_, rfl⟩
          have HOW : Hid (own' = own.take A ++ ms.take mm ++ own.drop (A + mm)) := hown'
          clear hown'
          go_cut [13, 14] (fun s13 s14 wx => s13 = .int .u32 (U (Crc.crc own')) ∧ s14 = .int .i64 0 ∧ Below wo.heap.size wo wx)
          case first =>
            have hwr : IntKind.i64.wrap ((A : Int) + (mm : Int)) = ((A + mm : Nat) : Int) := wrap_small (by omega) (by omega)
            have hle : A + mm ≤ cap := by omega
            have HW1 : Hid (Below w.heap.size w wo) := HR1.out.below
            obtain ⟨P1, hP1⟩ : ∃ P1 : Option Addr, (if cap = A then some (⟨g, 0, none⟩ : Addr) else some ⟨g, A, none⟩) = P1 := ⟨_, rfl⟩
            have hB1 : Hid (Bytes wo.drew P1 ((own.drop A).take mm)) := (cut_bytes HR1.out.mine (by rw [HR1.out.len]; omega) hP1)
            have hB2 : Hid (Bytes wo.drew a2 (ms.take mm)) := (HM.out.on HW1.out.drew).take mm
            have HTd : Hid (TabAt wo.drew) := HT.out.on HW1.out.drew
            have hl1 : Hid (((own.drop A).take mm).length = mm) := by show _ = _; rw [List.length_take, List.length_drop, HR1.out.len]; omega
            have hl2 : Hid ((ms.take mm).length = mm) := by show _ = _; rw [List.length_take, HNM.out]; omega
            have HV : Hid (Crc.crc own ^^^ Crc.pw Crc.e8 ((n : Int) - (A : Int) - (mm : Nat)).toNat (Crc.crc ((own.drop A).take mm) ^^^ Crc.crc (ms.take mm)) = Crc.crc own') := by
              rw [HOW.out]; exact turn_list own ms n A mm HR1.out.len (by omega) (by rw [HNM.out]; omega)
            go_region_with (go_at_call 12; refine (turn_ok _ (Crc.crc own) n A P1 a2 mm _ _ ((own.drop A).take mm) (ms.take mm) (by omega) (by omega) (by omega) (by omega) hl1.out hl2.out HTd.out hB1.out hB2.out).mono ?_; rintro e wx ⟨rfl, hbx⟩; rw [HV.out])
            all_goals (go_wp2_with fail; go_meet; exact ⟨rfl, rfl, chain (Below.refl _ _).drew hbx⟩)
          case rest =>
            obtain ⟨rfl, rfl, hbx⟩ := hcut
            have HRn : Hid (TRel w wc g cap n own) := HR1.out.on hbx
            have hle : A + mm ≤ cap := by omega
            obtain ⟨P1, hP1⟩ : ∃ P1 : Option Addr, (if cap = A then some (⟨g, 0, none⟩ : Addr) else some ⟨g, A, none⟩) = P1 := ⟨_, rfl⟩
            obtain ⟨⟨L⟩, hgL, hszL, htkL⟩ := HRn.out.mine.row
            have HgL : Hid (wc.heap[g]? = some (.cells L.toArray 5 (0, 0))) := hgL
            have hszL' : L.length = cap := hszL
            have Hown : Hid (L.take own.length = own.map (Value.int .u8)) := htkL
            obtain ⟨cs, hcs⟩ : ∃ cs : List Value, cs = (ms.take mm).map (Value.int .u8) := ⟨_, rfl⟩
            have HCS : Hid (cs = (ms.take mm).map (Value.int .u8)) := hcs
            have hcl : cs.length = mm := by rw [hcs, List.length_map, List.length_take, HNM.out]; omega
            have HB2 : Hid (Bytes wc a2 (ms.take mm)) := (HM.out.on HRn.out.below).take mm
            have Hpos : Hid (0 < cs.length → P1 = some ⟨g, A, none⟩ ∧ ∃ ad, a2 = some ad ∧ ∀ j v, cs[j]? = some v → wc.drew.cell? (ad.add j) = some v) := copy_pos hP1 (by omega) hcs HB2.out (by omega)
            have Hmin : Hid (cs.length = Nat.min mm (n - A)) := by show _ = _; rw [hcl]; exact (Nat.min_eq_left (by omega)).symm
            have Hone : Hid (∀ v ∈ cs, v.oneCell' = true) := by rw [hcs]; exact cells_u8 _
            have Hb : Hid (Below w.heap.size w wc.drew) := HRn.out.below.drew
            have Hfit : Hid (A + cs.length ≤ L.length) := by show _ ≤ _; omega
            clear hgL hszL htkL hcs hcl hbx HR1
            have hmc : mm ≤ cm := by omega
            have hAc : A ≤ cap := by omega
            go_wp2_with fail
            go_region_law (refine step_copy_splice rfl (.tmp 72) (.tmp 75) 24 24 rfl 5 Tryd.underlying24 size5 P1 a2 (n - A) (cap - A) mm cm (by simp [Act.eval, Act.put]) (by simp [Act.eval, Act.put]) g A L 5 HgL.out cs Hmin.out Hpos.out Hfit.out Hone.out w.heap.size w Hb.out hgw ?_; intro w4 hg4 hb4)
            have HR4 : Hid (TRel w w4 g cap n own') := copied HRn.out (by omega) (by rw [HNM.out]; omega) HM.out.wf HOW.out HCS.out Hown.out hszL' hg4.out hb4
            have HT4 : Hid (TabAt w4) := HT.out.on hb4
            clear hg4 hb4
            go_wp2_with (first | (go_at_call 11; refine (num_any _ _).mono ?_; rintro e w' ⟨rfl, rfl⟩) | (go_at_call 9; refine (of_any _ _ n cap own' HR4.out.len HT4.out HR4.out.mine.bytes).mono ?_; rintro e w' ⟨rfl, rfl⟩))
            go_roundw
            case rel => exact ⟨k + 1, own', by omega, by go_num, HR4.out, rfl⟩
            case measure => simp [intOf]; omega
    · have kc := convert1
      have kc2 := convert2
      have HBl : Hid (Below w.heap.size w wr) := HR1.out.below
      go_wp2_with fail
      refine (turn_bad _ (Crc.crc own) n n _ _ 1 1 1 1 (by omega)).mono ?_
      rintro e w5 ⟨rfl, rfl⟩
      go_wp2
      go_ret
      exact ⟨rfl, (HBl.out.alloc HBl.out.size _).alloc (by have := HBl.out.size; simp; omega) _⟩
end Go.Proofs.YtklffjagdhbjcaaDoor

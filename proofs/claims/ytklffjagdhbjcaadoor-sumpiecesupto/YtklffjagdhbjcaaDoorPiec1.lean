import Derived.Test.YtklffjagdhbjcaaDoorPieces
import Derived.WalkSmall
namespace Go.Proofs.YtklffjagdhbjcaaDoor
open Go.RowKit
open Crc (W)

theorem crc_nil : Crc.crc [] = 0#32 := by decide
theorem OwnV.grow {w w' : World} {B : Nat} {a : Option Addr} {n cap : Nat} {l : List Int} (h : OwnV w B a n cap l) (hb : Below w.heap.size w w') : OwnV w' B a n cap l := by
  refine ⟨⟨h.owns.1, ?_⟩, h.len, h.wf, h.small⟩
  rcases h.owns.2 with e | ⟨g, c, cur, hv, hg, hh, r⟩
  · exact .inl e
  · exact .inr ⟨g, c, cur, hv, hg, by rw [hb.block g (heap_lt hh)]; exact hh, r⟩
/-- what holds at the first loop's head -/
structure PRel (w wr : World) (a : Option Addr) (n cap : Nat) (all : List Int) : Prop where
  own : OwnV wr w.heap.size a n cap all
  below : Below w.heap.size w wr

theorem PRel.drewN {w wr : World} {a : Option Addr} {n cap : Nat} {all : List Int} (h : PRel w wr a n cap all) (k : Nat) : PRel w (wr.drewN k) a n cap all :=
  ⟨⟨h.own.owns, h.own.len, h.own.wf, h.own.small⟩, below_drewN h.below k⟩
theorem cut_own {w : World} {B : Nat} {a P2 : Option Addr} {n cap h : Nat} {l : List Int} (ho : OwnV w B a n cap l) (hh : h ≤ n) (hP : (if cap = h then a else Option.map (fun x => x.add h) a) = P2) : Bytes w P2 (l.drop h) := by
  have hb := ho.bytes
  have hl := ho.len
  have hr := ho.room
  refine ⟨by have := hb.len; rw [List.length_drop]; omega, fun i => by rw [nth_drop]; exact hb.wf _, ?_⟩
  by_cases hc : cap = h
  · exact .inl (List.drop_eq_nil_of_le (by omega))
  · rw [if_neg hc] at hP
    rcases hb.at_ with e | ⟨b, off, e, hc'⟩
    · exact .inl (by rw [e, List.drop_nil])
    · subst e
      refine .inr ⟨b, off + h, by rw [← hP]; simp [Addr.add_lit], fun i hi => ?_⟩
      rw [List.length_drop] at hi
      rw [nth_drop, Nat.add_assoc]; exact hc' (h + i) (by omega)

set_option maxRecDepth 100000 in
set_option maxHeartbeats 1600000 in
theorem pieces_any (w : World) (a0 : Option Addr) (np cp : Nat) (L : List Piece) (hnp : L.length = np) (hsm : np ≤ 1048576) (hT : TabAt w) (hP : Pieces w a0 L) (hz : a0 = none → cp = 0) (htot : (joined L).length ≤ 1048576) :
    Calls Tryd.prog 3 #[.slice a0 np cp] w fun e w' => e = .returned (.bool true) ∧ Below w.heap.size w w' := by
  have HT : Hid (TabAt w) := hT
  have HP : Hid (Pieces w a0 L) := hP
  have HZ : Hid (a0 = none → cp = 0) := hz
  have HN : Hid (L.length = np) := hnp
  have HS : Hid ((joined L).length ≤ 1048576) := htot
  clear hT hP hz hnp htot
  go_enter Tryd.func3, Tryd.ntmps3
  go_wp2_with fail
  refine (known_tab w HT.out).mono ?_
  rintro e w1 ⟨rfl, hb1, ht1⟩
  go_wp2_with fail
  refine (of_none w1 none 0).mono ?_
  rintro e w2 ⟨rfl, rfl⟩
  have HR : Hid (PRel w w2 none 0 0 []) := ⟨⟨World.ownsRow_nil _ _ _ _, rfl, fun i => by simp [nth], by omega⟩, hb1⟩
  clear hb1 ht1
  generalize hv4 : U (Crc.crc []) = v4
  have HV4 : Hid (v4 = U (Crc.crc [])) := hv4.symm
  clear hv4
  go_wp2_with fail
  go_loopw [3, 4, 23] (fun s3 s4 i wr => ∃ (k : Nat) (a : Option Addr) (cap : Nat) (all : List Int), k ≤ np ∧ i = .int .i64 k ∧ all = joined (L.take k) ∧ PRel w wr a all.length cap all ∧ s3 = .slice a all.length cap ∧ s4 = .int .u32 (U (Crc.crc all))) (fun _ _ i _ => np - (intOf i).toNat)
  case atStart => exact ⟨0, none, 0, [], Nat.zero_le _, rfl, rfl, HR.out, rfl, by rw [HV4.out]⟩
  case round =>
    obtain ⟨k, a, cap, all, hk, rfl, hall, hr, rfl, rfl⟩ := hrel
    have HR1 : Hid (PRel w wr a all.length cap all) := hr
    have HA : Hid (all = joined (L.take k)) := hall
    clear hr hall
    by_cases hlt : k < np
    · obtain ⟨p, hp⟩ : ∃ p : Piece, L[k]? = some p := ⟨L[k]'(by rw [HN.out]; exact hlt), List.getElem?_eq_getElem _⟩
      have hPw := HP.out.on HR1.out.below
      obtain ⟨b, off, hab, hcell⟩ : ∃ b off, a0 = some ⟨b, off, none⟩ ∧ wr.cell? ⟨b, off + k, none⟩ = some (.slice p.a p.l.length p.cap) := by
        rcases hPw.at_ with e | ⟨b, off, e, hc⟩
        · rw [e] at hp; simp at hp
        · exact ⟨b, off, e, hc k p hp⟩
      have HPw : Hid (Bytes w p.a p.l) := (HP.out.each p (List.mem_of_getElem? hp)).1
      have HPe : Hid (Bytes wr p.a p.l ∧ (p.a = none → p.cap = 0)) := hPw.each p (List.mem_of_getElem? hp)
      have HJ : Hid (joined (L.take (k + 1)) = all ++ p.l) := by rw [HA.out]; exact joined_snoc L k p hp
      have hsum : all.length + p.l.length ≤ 1048576 := by
        have h1 := (joined_le L (k + 1)).1
        rw [HJ.out, List.length_append] at h1
        have := HS.out
        omega
      have HJo : Hid (Crc.pw Crc.e8 ((p.l.length : Nat) : Int).toNat (Crc.crc all) ^^^ Crc.crc p.l = Crc.crc (all ++ p.l)) := Crc.join all p.l
      have hbs : Hid (w.heap.size ≤ wr.heap.size) := HR1.out.below.size
      clear hPw hp
      rw [hab]
      obtain ⟨pa, pc, pl⟩ := p
      dsimp only at *
      go_wp2_with (at_builtin; refine wp_more wr rfl _ _ rfl w.heap.size hbs.out a all.length cap all rfl HR1.out.own ⟨pa, pc, pl⟩ rfl HPe.out.1 HPe.out.2 hsum ?_; intro a' cap' w3 hown3 hb3)
      have HB3 : Hid (Below w.heap.size w w3) := HR1.out.below.trans hb3
      have HT3 : Hid (TabAt w3) := HT.out.on HB3.out
      have HP3 : Hid (Bytes w3 pa pl) := HPw.out.on HB3.out
      have HO3 : Hid (OwnV w3 w.heap.size a' (all.length + pl.length) cap' (all ++ pl)) := hown3
      clear hown3 hb3
      refine (of_any _ pa pl.length pc pl rfl HT3.out HP3.out).mono ?_
      rintro e w4 ⟨rfl, rfl⟩
      go_wp2_with fail
      refine (join_ok _ (Crc.crc all) (Crc.crc pl) _ (by omega) (by omega) HT3.out).mono ?_
      rintro e w5 ⟨rfl, hb5⟩
      rw [HJo.out]
      have HR5 : Hid (PRel w w5 a' (all ++ pl).length cap' (all ++ pl)) := by
        have h1 := HO3.out.grow hb5
        rw [List.length_append]
        exact ⟨h1, chain HB3.out hb5⟩
      clear hb5
      go_wp2_with (go_at_call 11; refine (num_any _ _).mono ?_; rintro e w' ⟨rfl, rfl⟩)
      go_roundw
      case rel => exact ⟨k + 1, a', cap', all ++ pl, by omega, by go_num, HJ.out.symm, HR5.out, by rw [List.length_append], rfl⟩
      case measure => simp [intOf]; omega
    · obtain rfl : k = np := by omega
      have hall : all = joined L := by rw [HA.out, List.take_of_length_le (by rw [HN.out]; omega)]
      have HAL : Hid (all = joined L) := hall
      clear hall HA hlt
      go_wp2_with fail
      refine (of_none wr none 0).mono ?_
      rintro e w5 ⟨rfl, rfl⟩
      generalize hv9 : U (Crc.crc []) = v9
      have HV9 : Hid (v9 = U (Crc.crc [])) := hv9.symm
      clear hv9
      go_wp2_with fail
      clear HR HZ hk
      go_loopw [9, 10, 11] (fun s9 s10 i wr => ∃ (j : Nat) (back : List Int), j ≤ k ∧ i = .int .i64 ((j : Int) - 1) ∧ back = joined (L.drop j) ∧ PRel w wr a all.length cap all ∧ s9 = .int .u32 (U (Crc.crc back)) ∧ s10 = .int .i64 back.length) (fun _ _ i _ => (intOf i + 1).toNat)
      case atStart => exact ⟨k, [], Nat.le_refl _, rfl, by rw [List.drop_eq_nil_of_le (by rw [HN.out]; omega)]; rfl, HR1.out, by rw [HV9.out], rfl⟩
      case round =>
        obtain ⟨j, back, hj, rfl, hback, hr, rfl, rfl⟩ := hrel
        have HRj : Hid (PRel w wr a all.length cap all) := hr
        have HBk : Hid (back = joined (L.drop j)) := hback
        have hbl : back.length ≤ 1048576 := by have := (joined_le L j).2; rw [← hback] at this; have := HS.out; omega
        clear hr hback HR1
        cases j with
        | zero =>
          have HBA : Hid (back = all) := by show _ = _; rw [HBk.out, HAL.out]; rfl
          rw [HBA.out]
          have hal : all.length ≤ 1048576 := by have := HS.out; rw [← HAL.out] at this; exact this
          obtain ⟨h, hh⟩ : ∃ h : Nat, (all.length : Int) / 2 = (h : Int) := ⟨all.length / 2, by omega⟩
          have hcn : all.length ≤ cap := HRj.out.own.room
          go_upto_region 23 with fail
          go_cut [15, 16] (fun s15 s16 wx => s15 = .int .u32 (U (Crc.crc all)) ∧ s16 = .int .i64 0 ∧ Below wr.heap.size wr wx)
          case first =>
            have hhn : h ≤ all.length := by omega
            have hhc : h ≤ cap := by omega
            have hwr : IntKind.i64.wrap ((all.length : Int) - (h : Int)) = ((all.length - h : Nat) : Int) := wrap_small (by omega) (by omega)
            obtain ⟨P2, hP2⟩ : ∃ P2 : Option Addr, (if cap = h then a else Option.map (fun x => x.add h) a) = P2 := ⟨_, rfl⟩
            have hlt1 : Hid ((all.take h).length = h) := by show _ = _; rw [List.length_take]; omega
            have hlt2 : Hid ((all.drop h).length = all.length - h) := by show _ = _; rw [List.length_drop]
            have HB1 : Hid (∀ k, Bytes (wr.drewN k) a (all.take h)) := fun k => ((HRj.out.drewN k).own.bytes).take h
            have HB2 : Hid (∀ k, Bytes (wr.drewN k) P2 (all.drop h)) := fun k => cut_own (HRj.out.drewN k).own hhn hP2
            have HTd : Hid (∀ k, TabAt (wr.drewN k)) := fun k => HT.out.on (HRj.out.drewN k).below
            have HJo : Hid (Crc.pw Crc.e8 ((all.length - h : Nat) : Int).toNat (Crc.crc (all.take h)) ^^^ Crc.crc (all.drop h) = Crc.crc all) := by
              have := Crc.join (all.take h) (all.drop h)
              rw [List.take_append_drop, List.length_drop] at this
              exact this
            go_region_with (first | (go_at_call_of 9 (P2); refine (of_any _ P2 (all.length - h) _ (all.drop h) hlt2.out (HTd.out 1) (HB2.out 1)).mono ?_; rintro e wx ⟨rfl, rfl⟩) | (go_at_call 9; refine (of_any _ a h _ (all.take h) hlt1.out (HTd.out 1) (HB1.out 1)).mono ?_; rintro e wx ⟨rfl, rfl⟩) | (go_at_call 10; refine (join_ok _ (Crc.crc (all.take h)) (Crc.crc (all.drop h)) _ (by omega) (by omega) (HTd.out 1)).mono ?_; rintro e wx ⟨rfl, hbx⟩; rw [HJo.out]))
            all_goals (go_wp2_with fail; go_meet; exact ⟨rfl, rfl, chain (Below.refl _ _).drew hbx⟩)
          case rest =>
            obtain ⟨rfl, rfl, hbx⟩ := hcut
            have HRc : Hid (PRel w wc a all.length cap all) := ⟨HRj.out.own.grow hbx, chain HRj.out.below hbx⟩
            have HTc : Hid (TabAt wc) := HT.out.on HRc.out.below
            clear hbx
            go_wp2_with fail
            refine (of_any _ a all.length cap all rfl HTc.out HRc.out.own.bytes).mono ?_
            rintro e w8 ⟨rfl, rfl⟩
            go_wp2_with (go_at_call 11; refine (num_any _ _).mono ?_; rintro e w' ⟨rfl, rfl⟩)
            go_ret
            exact ⟨rfl, HRc.out.below⟩
        | succ j =>
          rw [show ((j + 1 : Nat) : Int) - 1 = (j : Int) by omega]
          obtain ⟨p, hp⟩ : ∃ p : Piece, L[j]? = some p := ⟨L[j]'(by rw [HN.out]; omega), List.getElem?_eq_getElem _⟩
          have hPw := HP.out.on HRj.out.below
          obtain ⟨b, off, hab, hcell⟩ : ∃ b off, a0 = some ⟨b, off, none⟩ ∧ wr.cell? ⟨b, off + j, none⟩ = some (.slice p.a p.l.length p.cap) := by
            rcases hPw.at_ with e | ⟨b, off, e, hc⟩
            · rw [e] at hp; simp at hp
            · exact ⟨b, off, e, hc j p hp⟩
          have HPw : Hid (Bytes w p.a p.l) := (HP.out.each p (List.mem_of_getElem? hp)).1
          have HPe : Hid (Bytes wr p.a p.l) := (hPw.each p (List.mem_of_getElem? hp)).1
          have HJ : Hid (p.l ++ back = joined (L.drop j)) := by rw [HBk.out]; exact (joined_cons L j p hp).symm
          have hsum : p.l.length + back.length ≤ 1048576 := by
            have h1 := (joined_le L j).2
            rw [← HJ.out, List.length_append] at h1
            have := HS.out
            omega
          have HJo : Hid (Crc.pw Crc.e8 ((back.length : Nat) : Int).toNat (Crc.crc p.l) ^^^ Crc.crc back = Crc.crc (p.l ++ back)) := Crc.join p.l back
          have HTj : Hid (TabAt wr) := HT.out.on HRj.out.below
          clear hPw hp
          rw [hab]
          obtain ⟨pa, pc, pl⟩ := p
          dsimp only at *
          go_wp2_with fail
          refine (of_any _ pa pl.length pc pl rfl HTj.out HPe.out).mono ?_
          rintro e w6 ⟨rfl, rfl⟩
          go_wp2_with fail
          refine (join_ok _ (Crc.crc pl) (Crc.crc back) _ (by omega) (by omega) HTj.out).mono ?_
          rintro e w7 ⟨rfl, hb7⟩
          rw [HJo.out]
          have HR7 : Hid (PRel w w7 a all.length cap all) := ⟨HRj.out.own.grow hb7, chain HRj.out.below hb7⟩
          have hcell7 : w7.cell? ⟨b, off + j, none⟩ = some (.slice pa pl.length pc) := by rw [hb7.cell (p := ⟨b, off + j, none⟩) (block_lt_of_cell hcell)]; exact hcell
          clear hb7 hcell
          have hjk : (0 : Int) ≤ (j : Int) ∧ (j : Int) < (k : Int) := by omega
          go_wp2_with (go_at_call 11; refine (num_any _ _).mono ?_; rintro e w' ⟨rfl, rfl⟩)
          go_quiet (fail)
          go_wp2
          go_roundw
          case rel => exact ⟨j, pl ++ back, by omega, rfl, HJ.out, HR7.out.drewN nq, rfl, by rw [List.length_append]; go_num⟩
          case measure => simp [intOf]
end Go.Proofs.YtklffjagdhbjcaaDoor

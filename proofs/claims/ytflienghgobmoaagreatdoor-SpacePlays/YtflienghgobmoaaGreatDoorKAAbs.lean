import Derived.Test.YtflienghgobmoaaGreatDoorKAPut
namespace Go.Proofs.YtflienghgobmoaaGreatDoor
open Go.RowKit Rec

/-- a disk, wherever it lies -/
structure AD where
  nb : Nat
  las : List Int
  P : List (Nat × List Int)
  T : List (Int × Int × List Int)
  wr : Nat
  fl : Nat
  at_ : Int
  keep : List Bool
  down : Bool
def AD.f (a : AD) (k : Nat) : Nat := (a.P.getD k (0, [])).1
def AD.X (a : AD) (k : Nat) : List Int := (a.P.getD k (0, [])).2
def AD.full (a : AD) : List Int := lay (fun _ => true) a.f a.X a.las a.P.length
def AD.settle (a : AD) (kp : Nat → Bool) : AD := { a with las := lay kp a.f a.X a.las a.P.length, P := [] }
def AD.cut (a : AD) (kp : Nat → Bool) : AD := { a.settle kp with down := true }
def AD.tick (a : AD) : AD := if 0 < a.at_ then { a with at_ := a.at_ - 1 } else a
theorem tick_eq (a : AD) : a.tick = { a with at_ := if 0 < a.at_ then a.at_ - 1 else a.at_ } := by
  unfold AD.tick; split <;> rfl
def AD.write (a : AD) (i : Nat) (x : List Int) : AD :=
  let b : AD := { a with P := a.P ++ [(i, x)], T := a.T ++ [(1, (i : Int), x)], wr := a.wr + 1 }
  if a.at_ = 1 then ({ b with at_ := 0 } : AD).cut (kpOf a.keep) else b.tick
def AD.flush (a : AD) : AD :=
  let b : AD := { a with fl := a.fl + 1 }
  if a.at_ = 1 then ({ b with at_ := 0 } : AD).cut (kpOf a.keep) else ({ b.tick with T := a.T ++ [(2, 0, [])] } : AD).settle (fun _ => true)
/-- what a step answers -/
def AD.stepE (a : AD) : Int := if a.at_ = 1 then 30 else 0
def AD.touchE (a : AD) (i : Int) : Int := if a.down then 30 else if 0 ≤ i ∧ i < a.nb then 0 else 31
def Dk.abs (D : Dk) : AD := ⟨D.nb, D.las, D.pen.map (fun p => (p.b, p.x)), D.tap.map (fun a => (a.kind, a.b, a.x)), D.wr, D.fl, D.at_, D.keep, D.down⟩
theorem abs_f (D : Dk) : D.abs.f = D.f := by
  funext k
  simp only [AD.f, Dk.abs, Dk.f, List.getD, List.getElem?_map]
  cases D.pen[k]? <;> rfl
theorem abs_X (D : Dk) : D.abs.X = D.X := by
  funext k
  simp only [AD.X, Dk.abs, Dk.X, List.getD, List.getElem?_map]
  cases D.pen[k]? <;> rfl
theorem abs_len (D : Dk) : D.abs.P.length = D.pen.length := by simp [Dk.abs]
theorem abs_full (D : Dk) : D.full = D.abs.full := by rw [Dk.full, AD.full, abs_f, abs_X, abs_len]; rfl
theorem abs_settle (D : Dk) (kp : Nat → Bool) : (D.settled kp).abs = D.abs.settle kp := by
  rw [AD.settle, abs_f, abs_X, abs_len]; rfl
theorem abs_cut (D : Dk) (kp : Nat → Bool) : (D.cut kp).abs = D.abs.cut kp := by
  rw [AD.cut, ← abs_settle]; rfl
theorem abs_tick (D : Dk) : D.ticked.abs = D.abs.tick := by
  unfold Dk.ticked AD.tick
  show _ = if 0 < D.at_ then _ else _
  split <;> rfl
theorem abs_act (D : Dk) (gt ct : Nat) (a : Ac) : (D.act gt ct a).abs = { D.abs with T := D.abs.T ++ [(a.kind, a.b, a.x)] } := by simp [Dk.act, Dk.abs]
theorem abs_pend (D : Dk) (gt ct : Nat) (p : It) : (D.pend gt ct p).abs = { D.abs with P := D.abs.P ++ [(p.b, p.x)] } := by simp [Dk.pend, Dk.abs]
/-- there is room for more -/
structure RoomD (a : AD) : Prop where
  p : a.P.length + 1 ≤ 3518437208800
  t : a.T.length + 1 ≤ 3518437208800
  w : a.wr + 1 ≤ 3518437208800
  f : a.fl + 1 ≤ 3518437208800
  k : a.keep.length ≤ 9223372036854775807
theorem abs_tlen (D : Dk) : D.abs.T.length = D.tap.length := by simp [Dk.abs]
/-- its rows are those that it had, and new ones -/
def Al (n : Nat) (D D' : Dk) : Prop := ∀ k, D'.all k → D.all k ∨ n ≤ k
theorem al_trans {n n' : Nat} {D D' D'' : Dk} (h : Al n D D') (h' : Al n' D' D'') (hn : n ≤ n') : Al n D D'' := fun k hk => (h' k hk).elim (h k) (fun e => .inr (Nat.le_trans hn e))
theorem al_cut (n : Nat) (D : Dk) (kp : Nat → Bool) : Al n D (({ D with at_ := 0 } : Dk).cut kp) := by
  rintro k (hk | hk | ⟨p, hp, _⟩ | hk)
  · exact .inl (.inl ((settled_has { D with at_ := 0 } kp k).1 hk))
  · exact .inl (.inr (.inl hk))
  · cases hp
  · exact .inl (.inr (.inr (.inr hk)))
theorem al_crash (n : Nat) (D : Dk) (kp : Nat → Bool) : Al n D (D.cut kp) := by
  rintro k (hk | hk | ⟨p, hp, _⟩ | hk)
  · exact .inl (.inl ((settled_has D kp k).1 hk))
  · exact .inl (.inr (.inl hk))
  · cases hp
  · exact .inl (.inr (.inr (.inr hk)))
theorem al_tick (n : Nat) (D : Dk) : Al n D D.ticked := by
  unfold Dk.ticked; split <;> exact fun k hk => .inl hk
theorem al_put {n : Nat} {D D1 : Dk} {gt ct gp cp : Nat} {a : Ac} {p : It} (e1 : D1.kv = D.kv) (e2 : D1.pen = D.pen) (e3 : D1.tap = D.tap) (hm : ∀ k, ((D1.act gt ct a).pend gp cp p).has k → D.has k ∨ n ≤ k) (ha : ∀ k, a.v.ownBlock = some k → n ≤ k) (hp : n ≤ p.g) : Al n D ((D1.act gt ct a).pend gp cp p) := by
  rintro k (hk | hk | ⟨q, hq, hk⟩ | ⟨b, hb, hk⟩)
  · exact (hm k hk).imp .inl id
  · exact .inl (.inr (.inl (e1 ▸ hk)))
  · have hq : q ∈ D1.pen ++ [p] := hq
    rw [e2] at hq
    rcases List.mem_append.1 hq with hq | hq
    · exact .inl (.inr (.inr (.inl ⟨q, hq, hk⟩)))
    · rw [List.mem_singleton] at hq; subst hq; exact .inr (hk ▸ hp)
  · have hb : b ∈ D1.tap ++ [a] := hb
    rw [e3] at hb
    rcases List.mem_append.1 hb with hb | hb
    · exact .inl (.inr (.inr (.inr ⟨b, hb, hk⟩)))
    · rw [List.mem_singleton] at hb; subst hb; exact .inr (ha k hk)
theorem al_flush {n : Nat} {D D1 : Dk} {gt ct : Nat} (e1 : D1.kv = D.kv) (e3 : D1.tap = D.tap) (hm : ∀ k, ((D1.act gt ct flushAc).settled (fun _ => true)).has k → D.has k ∨ n ≤ k) : Al n D ((D1.act gt ct flushAc).settled (fun _ => true)) := by
  rintro k (hk | hk | ⟨q, hq, hk⟩ | ⟨b, hb, hk⟩)
  · exact (hm k hk).imp .inl id
  · exact .inl (.inr (.inl (e1 ▸ hk)))
  · cases hq
  · have hb : b ∈ D1.tap ++ [flushAc] := hb
    rw [e3] at hb
    rcases List.mem_append.1 hb with hb | hb
    · exact .inl (.inr (.inr (.inr ⟨b, hb, hk⟩)))
    · rw [List.mem_singleton] at hb; subst hb; cases hk
theorem ticked_kv (D : Dk) : D.ticked.kv = D.kv := by unfold Dk.ticked; split <;> rfl
theorem ticked_tap (D : Dk) : D.ticked.tap = D.tap := by unfold Dk.ticked; split <;> rfl
set_option maxRecDepth 100000 in
set_option maxHeartbeats 800000 in
theorem write_no (w : World) (D : Dk) (h : Disk w D) (i : Int) (a : Option Addr) (n c : Nat) (ht : touchE D i ≠ 0) : Calls Tryz.prog 153 #[.pointer (some ⟨D.d, 0, none⟩), .int .i64 i, .slice a n c] w fun e w' => e = .returned (.int .i64 (touchE D i)) ∧ w = w' := by
  have HD : Hid (Disk w D) := h
  clear h
  have hn : (touchE D i == 0) = false := by simpa using ht
  go_enter Tryz.func153, Tryz.ntmps153
  go_wp2_with (go_at_call 142; refine (touch_any _ D HD.out i).mono ?_; rintro e w' ⟨rfl, rfl⟩)
  go_ret
  exact ⟨rfl, rfl⟩
theorem Bytes.fr {S : Nat → Prop} {w w' : World} {p : Addr} {l : List Int} (h : Bytes w (Option.some p) l) (x : Fr S w w') (hk : ¬ S p.block) : Bytes w' (Option.some p) l := by
  refine ⟨h.len, h.wf, ?_⟩
  rcases h.at_ with e | ⟨b, off, e, hc⟩
  · exact .inl e
  · cases e
    exact .inr ⟨b, off, rfl, fun i hi => x.cell (hc i hi) hk⟩
set_option maxRecDepth 100000 in
set_option maxHeartbeats 1600000 in
theorem write_yes (w : World) (D : Dk) (h : Disk w D) (i : Nat) (p : Addr) (c : Nat) (x : List Int) (hi : i < D.nb) (hd : D.down = false) (hb : Bytes w (some p) x) (hx : x.length = 512) (hr : RoomD D.abs) (hpn : ¬ D.has p.block) :
    Calls Tryz.prog 153 #[.pointer (some ⟨D.d, 0, none⟩), .int .i64 i, .slice (some p) 512 c] w fun e w' => e = .returned (.int .i64 D.abs.stepE) ∧ ∃ D', Disk w' D' ∧ Mv w D w' D' ∧ Al w.heap.size D D' ∧ D'.abs = D.abs.write i x := by
  have HT : Hid (touchE D i = 0) := by unfold touchE; rw [hd, if_neg (by decide), if_pos (by omega)]; exact rfl
  have C4 : w.cell? ⟨D.d, 4, none⟩ = some (.int .i64 D.wr) := h.cell 4
  have F4 := h.frozen 4
  have hw := hr.w
  have hp1 := hr.p
  have ht1 := hr.t
  rw [abs_len] at hp1
  rw [abs_tlen] at ht1
  replace hw : D.wr + 1 ≤ 3518437208800 := hw
  obtain ⟨h8, m8⟩ := h.put1 (D' := { D with wr := D.wr + 1 }) 4 (.int .i64 ((D.wr : Int) + 1)) rfl rfl h.dn hw h.fls h.at1
  have HB : Hid (Bytes (w.setCell ⟨D.d, 4, none⟩ (.int .i64 ((D.wr : Int) + 1))) (some p) x) := hb.fr (Fr.set (g := D.d)) (fun e => hpn (.inl e))
  have H8 : Hid (Disk (w.setCell ⟨D.d, 4, none⟩ (.int .i64 ((D.wr : Int) + 1))) { D with wr := D.wr + 1 } ∧ Mv w D (w.setCell ⟨D.d, 4, none⟩ (.int .i64 ((D.wr : Int) + 1))) { D with wr := D.wr + 1 }) := ⟨h8, m8⟩
  have HD : Hid (Disk w D) := h
  have HX : Hid (x.length = 512) := hx
  clear h h8 m8 hb hx
  go_enter Tryz.func153, Tryz.ntmps153
  go_upto_region 8 with (first
    | (go_at_call 142; refine (touch_any _ D HD.out i).mono ?_; rintro e w' ⟨rfl, rfl⟩; rw [HT.out])
    | (go_at_call 19; refine (bclone_any _ p 512 c x HB.out HX.out (by omega)).mono ?_; rintro e w1 ⟨g, cap, rfl, hg, ho, hb1⟩; have HG : Hid ((w.setCell ⟨D.d, 4, none⟩ (.int .i64 ((D.wr : Int) + 1))).heap.size ≤ g ∧ OwnB w1 g cap x ∧ Below (w.setCell ⟨D.d, 4, none⟩ (.int .i64 ((D.wr : Int) + 1))).heap.size (w.setCell ⟨D.d, 4, none⟩ (.int .i64 ((D.wr : Int) + 1))) w1) := ⟨hg, ho, hb1⟩; clear hg ho hb1)
    | (go_at_call 184; refine (put_any _ { D with wr := D.wr + 1 } (H8.out.1.on HG.out.2.2) i g cap x hi HX.out HG.out.2.1 (fun e => absurd (H8.out.1.hasLt e) (Nat.not_lt.2 HG.out.1)) hd hp1 ht1).mono ?_; rintro e w2 ⟨rfl, gt, ct, gp, cp, hd2, hm2⟩; have HZ : Hid (Disk w2 ((({ D with wr := D.wr + 1 } : Dk).act gt ct ⟨1, i, .slice (some ⟨g, 0, none⟩) 512 cap, x⟩).pend gp cp ⟨i, g, cap, x⟩) ∧ Mv w D w2 ((({ D with wr := D.wr + 1 } : Dk).act gt ct ⟨1, i, .slice (some ⟨g, 0, none⟩) 512 cap, x⟩).pend gp cp ⟨i, g, cap, x⟩)) := ⟨hd2, (H8.out.2.trans (mv_on _ _ _ HG.out.2.2)).trans hm2⟩; clear hd2 hm2))
  have HL : Hid (Al w.heap.size D ((({ D with wr := D.wr + 1 } : Dk).act gt ct ⟨1, i, .slice (some ⟨g, 0, none⟩) 512 cap, x⟩).pend gp cp ⟨i, g, cap, x⟩)) := al_put rfl rfl rfl HZ.out.2.has (fun k hk => by cases hk; exact Nat.le_trans H8.out.2.fr.size HG.out.1) (Nat.le_trans H8.out.2.fr.size HG.out.1)
  clear C4 F4 HG H8 HB HD HT
  have hst : Hid (D.abs.stepE = if D.at_ = 1 then 30 else 0) := rfl
  have hwr : Hid (D.abs.write i x = if D.at_ = 1 then ({ D.abs with P := D.abs.P ++ [(i, x)], T := D.abs.T ++ [(1, (i : Int), x)], wr := D.wr + 1, at_ := 0 } : AD).cut (kpOf D.keep) else ({ D.abs with P := D.abs.P ++ [(i, x)], T := D.abs.T ++ [(1, (i : Int), x)], wr := D.wr + 1 } : AD).tick) := rfl
  by_cases hat : D.at_ = 1
  · go_wp2_with (go_at_call 185; refine (step_goes _ _ HZ.out.1 _ hat hr.k).mono ?_; rintro e w3 ⟨rfl, hd3, hm3⟩; have H3 : Hid (Disk w3 _ ∧ Mv w2 _ w3 _) := ⟨hd3, hm3⟩; clear hd3 hm3)
    go_ret
    rw [hst.out, hwr.out, if_pos hat, if_pos hat]
    refine ⟨rfl, _, H3.out.1, HZ.out.2.trans H3.out.2, al_trans HL.out (al_cut w.heap.size _ _) (Nat.le_refl _), ?_⟩
    rw [abs_cut]
    congr 1
    simp [Dk.abs, Dk.act, Dk.pend]
  · go_wp2_with (go_at_call 185; refine (step_nil _ _ HZ.out.1 hat).mono ?_; rintro e w3 ⟨rfl, hd3, hm3⟩; have H3 : Hid (Disk w3 _ ∧ Mv w2 _ w3 _) := ⟨hd3, hm3⟩; clear hd3 hm3)
    go_ret
    rw [hst.out, hwr.out, if_neg hat, if_neg hat]
    refine ⟨rfl, _, H3.out.1, HZ.out.2.trans H3.out.2, al_trans HL.out (al_tick w.heap.size _) (Nat.le_refl _), ?_⟩
    rw [abs_tick, abs_pend, abs_act]
    rfl
set_option maxRecDepth 100000 in
set_option maxHeartbeats 800000 in
theorem flush_no (w : World) (D : Dk) (h : Disk w D) (hd : D.down = true) : Calls Tryz.prog 155 #[.pointer (some ⟨D.d, 0, none⟩)] w fun e w' => e = .returned (.int .i64 30) ∧ Below w.heap.size w w' := by
  have C8 : w.cell? ⟨D.d, 8, none⟩ = some (.bool true) := by rw [← hd]; exact h.cell 8
  have HA : Hid (Below w.heap.size w (w.alloc (.cells #[.pointer (some ⟨D.d, 0, none⟩)] 27))) := (Below.refl _ _).alloc (Nat.le_refl _) _
  have C8' : (w.alloc (.cells #[.pointer (some ⟨D.d, 0, none⟩)] 27)).cell? ⟨D.d, 8, none⟩ = some (.bool true) := (fr_alloc (fun _ => False) w _).cell C8 (fun e => e)
  have CC : (w.alloc (.cells #[.pointer (some ⟨D.d, 0, none⟩)] 27)).cell? ⟨w.heap.size, 0, none⟩ = some (.pointer (some ⟨D.d, 0, none⟩)) := cell_of_row _ _ _ _ _ _ (heap_alloc_new _ _)
  clear h
  go_enter Tryz.func155, Tryz.ntmps155
  go_wp2
  go_ret
  exact ⟨rfl, HA.out⟩
set_option maxRecDepth 100000 in
set_option maxHeartbeats 1600000 in
theorem flush_yes (w : World) (D : Dk) (h : Disk w D) (hd : D.down = false) (hr : RoomD D.abs) :
    Calls Tryz.prog 155 #[.pointer (some ⟨D.d, 0, none⟩)] w fun e w' => e = .returned (.int .i64 D.abs.stepE) ∧ ∃ D', Disk w' D' ∧ Mv w D w' D' ∧ Al w.heap.size D D' ∧ D'.abs = D.abs.flush := by
  have HA : Hid (Below w.heap.size w (w.alloc (.cells #[.pointer (some ⟨D.d, 0, none⟩)] 27))) := (Below.refl _ _).alloc (Nat.le_refl _) _
  have HD0 : Hid (Disk (w.alloc (.cells #[.pointer (some ⟨D.d, 0, none⟩)] 27)) D) := h.on HA.out
  have CC : (w.alloc (.cells #[.pointer (some ⟨D.d, 0, none⟩)] 27)).cell? ⟨w.heap.size, 0, none⟩ = some (.pointer (some ⟨D.d, 0, none⟩)) := cell_of_row _ _ _ _ _ _ (heap_alloc_new _ _)
  have hcn : Hid (¬ D.has w.heap.size) := fun e => absurd (h.hasLt e) (by omega)
  have hf1 : D.fl + 1 ≤ 3518437208800 := hr.f
  have ht1 := hr.t
  rw [abs_tlen] at ht1
  go_enter Tryz.func155, Tryz.ntmps155
  go_upto_region 1 with fail
  generalize w.alloc (.cells #[.pointer (some ⟨D.d, 0, none⟩)] 27) = wa at *
  have C8 : wa.cell? ⟨D.d, 8, none⟩ = some (.bool false) := by rw [← hd]; exact HD0.out.cell 8
  have C5 : wa.cell? ⟨D.d, 5, none⟩ = some (.int .i64 D.fl) := HD0.out.cell 5
  have F5 := HD0.out.frozen 5
  obtain ⟨h8, m8⟩ := HD0.out.put1 (D' := { D with fl := D.fl + 1 }) 5 (.int .i64 ((D.fl : Int) + 1)) rfl rfl h.dn h.wrs hf1 h.at1
  have H8 : Hid (Disk (wa.setCell ⟨D.d, 5, none⟩ (.int .i64 ((D.fl : Int) + 1))) { D with fl := D.fl + 1 } ∧ Mv wa D (wa.setCell ⟨D.d, 5, none⟩ (.int .i64 ((D.fl : Int) + 1))) { D with fl := D.fl + 1 }) := ⟨h8, m8⟩
  have CC2 : (wa.setCell ⟨D.d, 5, none⟩ (.int .i64 ((D.fl : Int) + 1))).cell? ⟨w.heap.size, 0, none⟩ = some (.pointer (some ⟨D.d, 0, none⟩)) := m8.fr.cell CC hcn.out
  clear h8 m8 h
  have hst : Hid (D.abs.stepE = if D.at_ = 1 then 30 else 0) := rfl
  have hfl : Hid (D.abs.flush = if D.at_ = 1 then ({ D.abs with fl := D.fl + 1, at_ := 0 } : AD).cut (kpOf D.keep) else ({ ({ D.abs with fl := D.fl + 1 } : AD).tick with T := D.abs.T ++ [(2, 0, [])] } : AD).settle (fun _ => true)) := rfl
  by_cases hat : D.at_ = 1
  · go_wp2_with (go_at_call 185; refine (step_goes _ _ H8.out.1 _ hat hr.k).mono ?_; rintro e w3 ⟨rfl, hd3, hm3⟩; have H3 : Hid (Disk w3 _ ∧ Mv _ _ w3 _) := ⟨hd3, hm3⟩; clear hd3 hm3)
    go_ret
    rw [hst.out, hfl.out, if_pos hat, if_pos hat]
    refine ⟨rfl, _, H3.out.1, ((mv_on _ _ _ HA.out).trans H8.out.2).trans H3.out.2, al_cut w.heap.size { D with fl := D.fl + 1 } _, ?_⟩
    rw [abs_cut]
    rfl
  · go_wp2_with (go_at_call 185; refine (step_flush _ _ H8.out.1 hat _ CC2 hcn.out ht1).mono ?_; rintro e w3 ⟨rfl, gt, ct, hd3, hm3⟩; have H3 : Hid (Disk w3 _ ∧ Mv _ _ w3 _) := ⟨hd3, hm3⟩; clear hd3 hm3)
    go_ret
    rw [hst.out, hfl.out, if_neg hat, if_neg hat]
    refine ⟨rfl, _, H3.out.1, ((mv_on _ _ _ HA.out).trans H8.out.2).trans H3.out.2, al_flush (ticked_kv _) (ticked_tap _) (((mv_on _ _ _ HA.out).trans H8.out.2).trans H3.out.2).has, ?_⟩
    rw [abs_settle, abs_act, abs_tick]
    rw [tick_eq, tick_eq]
    rfl
end Go.Proofs.YtflienghgobmoaaGreatDoor

namespace Go.Proofs.YtflienghgobmoaaGreatDoor
open Go.RowKit Rec

/-- blocks laid over, one behind the other -/
def fw (l : List Int) (Q : List (Nat × List Int)) : List Int := Q.foldl (fun l p => wr l p.1 p.2) l
theorem fw_nil (l : List Int) : fw l [] = l := rfl
theorem fw_cons (l : List Int) (p : Nat × List Int) (Q : List (Nat × List Int)) : fw l (p :: Q) = fw (wr l p.1 p.2) Q := rfl
theorem fw_append (l : List Int) (Q R : List (Nat × List Int)) : fw l (Q ++ R) = fw (fw l Q) R := List.foldl_append
theorem fw_length (l : List Int) (Q : List (Nat × List Int)) : (fw l Q).length = l.length := by
  induction Q generalizing l with
  | nil => rfl
  | cons p Q ih => rw [fw_cons, ih, wr_length]
theorem bck_length (l : List Int) (b nb : Nat) (h : l.length = 512 * nb) (hb : b < nb) : (bck l b).length = 512 := by
  rw [bck, List.length_take, List.length_drop]; omega
theorem nth_bck (l : List Int) (b i : Nat) (hi : i < 512) : nth (bck l b) i = nth l (512 * b + i) := by
  simp [bck, nth, List.getD, hi]
theorem bck_wr (l : List Int) (n : Nat) (x : List Int) (b nb : Nat) (hl : l.length = 512 * nb) (hx : x.length = 512) (hb : b < nb) : bck (wr l n x) b = if b = n then x else bck l b := by
  have h1 : (bck (wr l n x) b).length = 512 := bck_length _ _ nb (by rw [wr_length, hl]) hb
  have h2 : (bck l b).length = 512 := bck_length _ _ nb hl hb
  refine ext_nth (by rw [h1]; split <;> omega) fun i hi => ?_
  rw [h1] at hi
  rw [nth_bck _ _ _ hi, nth_wr _ _ _ _ (by omega)]
  have e1 : (512 * b + i) / 512 = b := by omega
  have e2 : (512 * b + i) % 512 = i := by omega
  rw [e1, e2]
  split
  · rfl
  · rw [nth_bck _ _ _ hi]
theorem ext_bck {l m : List Int} (nb : Nat) (hl : l.length = 512 * nb) (hm : m.length = 512 * nb) (h : ∀ b, b < nb → bck l b = bck m b) : l = m := by
  refine ext_nth (by omega) fun i hi => ?_
  have := congrArg (fun z => nth z (i % 512)) (h (i / 512) (by omega))
  simp only [nth_bck _ _ _ (Nat.mod_lt i (by omega : 0 < 512))] at this
  rwa [Nat.div_add_mod] at this
theorem bck_fw_out (l : List Int) (Q : List (Nat × List Int)) (b nb : Nat) (hl : l.length = 512 * nb) (hQ : ∀ p ∈ Q, p.2.length = 512) (hb : b < nb) (h : ∀ p ∈ Q, p.1 ≠ b) : bck (fw l Q) b = bck l b := by
  induction Q generalizing l with
  | nil => rfl
  | cons p Q ih =>
    rw [fw_cons, ih _ (by rw [wr_length, hl]) (fun q hq => hQ q (.tail _ hq)) (fun q hq => h q (.tail _ hq)), bck_wr _ _ _ _ nb hl (hQ p (.head _)) hb, if_neg (fun e => h p (.head _) e.symm)]
/-- each place once -/
def Once1 (Q : List (Nat × List Int)) : Prop := Q.Pairwise fun p q => p.1 ≠ q.1
theorem bck_fw_in (l : List Int) (Q : List (Nat × List Int)) (nb : Nat) (hl : l.length = 512 * nb) (hQ : ∀ p ∈ Q, p.2.length = 512) (hn : ∀ p ∈ Q, p.1 < nb) (ho : Once1 Q) (p : Nat × List Int) (hp : p ∈ Q) : bck (fw l Q) p.1 = p.2 := by
  induction Q generalizing l with
  | nil => cases hp
  | cons q Q ih =>
    have ho' := List.pairwise_cons.1 ho
    rw [fw_cons]
    rcases List.mem_cons.1 hp with rfl | hp
    · rw [bck_fw_out _ _ _ nb (by rw [wr_length, hl]) (fun q hq => hQ q (.tail _ hq)) (hn _ (.head _)) (fun q hq e => ho'.1 q hq e.symm), bck_wr _ _ _ _ nb hl (hQ _ (.head _)) (hn _ (.head _)), if_pos rfl]
    · exact ih _ (by rw [wr_length, hl]) (fun q hq => hQ q (.tail _ hq)) (fun q hq => hn q (.tail _ hq)) ho'.2 hp
/-- those of a row that are kept -/
def sel (kp : Nat → Bool) (P : List (Nat × List Int)) : Nat → List (Nat × List Int)
  | 0 => []
  | k + 1 => if kp k then sel kp P k ++ [P.getD k (0, [])] else sel kp P k
theorem lay_sel (kp : Nat → Bool) (P : List (Nat × List Int)) (l : List Int) (n : Nat) : lay kp (fun k => (P.getD k (0, [])).1) (fun k => (P.getD k (0, [])).2) l n = fw l (sel kp P n) := by
  induction n with
  | zero => rfl
  | succ n ih =>
    rw [lay, sel, ih]
    split
    · rw [fw_append]; rfl
    · rfl
theorem sel_sub (kp : Nat → Bool) (P : List (Nat × List Int)) (n : Nat) (hn : n ≤ P.length) : (sel kp P n).Sublist (P.take n) := by
  induction n with
  | zero => exact List.Sublist.slnil
  | succ n ih =>
    have e : P.take (n + 1) = P.take n ++ [P.getD n (0, [])] := by
      rw [List.take_add_one, List.getD, List.getElem?_eq_getElem (by omega)]; rfl
    rw [sel, e]
    split
    · exact (ih (by omega)).append (List.Sublist.refl _)
    · exact (ih (by omega)).trans (List.sublist_append_left _ _)
theorem sel_all (P : List (Nat × List Int)) (n : Nat) (hn : n ≤ P.length) : sel (fun _ => true) P n = P.take n := by
  induction n with
  | zero => rfl
  | succ n ih =>
    rw [sel, if_pos rfl, ih (by omega), List.take_add_one, List.getD, List.getElem?_eq_getElem (by omega)]; rfl
theorem AD.settle_fw (a : AD) (kp : Nat → Bool) : a.settle kp = { a with las := fw a.las (sel kp a.P a.P.length), P := [] } := by
  unfold AD.settle
  rw [← lay_sel]; rfl
theorem AD.full_fw (a : AD) : a.full = fw a.las a.P := by
  have := lay_sel (fun _ => true) a.P a.las a.P.length
  rw [sel_all _ _ (Nat.le_refl _), List.take_length] at this
  exact this
/-- what a disk is to do: a write or a flush -/
abbrev WA := Option (Nat × List Int)
def AD.act (a : AD) : WA → AD
  | none => a.flush
  | some p => a.write p.1 p.2
def AD.take : AD → List WA → AD
  | a, [] => a
  | a, t :: r => if a.down then a else if a.at_ = 1 then a.act t else AD.take (a.act t) r
def AD.takeE : AD → List WA → Int
  | _, [] => 0
  | a, t :: r => if a.down then 30 else if a.at_ = 1 then 30 else AD.takeE (a.act t) r
/-- acts of the tape -/
def actT : WA → Int × Int × List Int
  | none => (2, 0, [])
  | some p => (1, (p.1 : Int), p.2)
def AD.wrs (a : AD) (ws : List (Nat × List Int)) : AD := { a with P := a.P ++ ws, T := a.T ++ ws.map (fun p => actT (some p)), wr := a.wr + ws.length, at_ := if 0 < a.at_ then a.at_ - ws.length else a.at_ }
def AD.fls (a : AD) : AD := { a with fl := a.fl + 1, las := fw a.las a.P, P := [], T := a.T ++ [actT none], at_ := if 0 < a.at_ then a.at_ - 1 else a.at_ }
theorem write_un (a : AD) (i : Nat) (x : List Int) (h : a.at_ ≠ 1) : a.write i x = a.wrs [(i, x)] := by
  unfold AD.write
  rw [if_neg h, tick_eq]
  rfl
theorem flush_un (a : AD) (h : a.at_ ≠ 1) : a.flush = a.fls := by
  unfold AD.flush
  rw [if_neg h, tick_eq, AD.settle_fw]
  show _ = _
  simp only [AD.fls, actT, sel_all _ _ (Nat.le_refl _), List.take_length]
theorem wrs_nil (a : AD) : a.wrs [] = a := by
  unfold AD.wrs
  cases a
  simp
theorem wrs_wrs (a : AD) (p : Nat × List Int) (ws : List (Nat × List Int)) (h : a.at_ ≤ 0 ∨ 1 < a.at_) : (a.wrs [p]).wrs ws = a.wrs (p :: ws) := by
  unfold AD.wrs
  simp only [List.append_assoc, List.singleton_append, List.map_cons, List.length_cons, List.map_nil, List.length_nil, AD.mk.injEq, true_and, and_true]
  refine ⟨by omega, ?_⟩
  split <;> (try split) <;> omega
theorem take_writes (a : AD) (ws : List (Nat × List Int)) (r : List WA) (hd : a.down = false) (hat : a.at_ ≤ 0 ∨ (ws.length : Int) < a.at_) :
    a.take (ws.map some ++ r) = (a.wrs ws).take r ∧ a.takeE (ws.map some ++ r) = (a.wrs ws).takeE r := by
  induction ws generalizing a with
  | nil => rw [wrs_nil]; exact ⟨rfl, rfl⟩
  | cons p ws ih =>
    simp only [List.length_cons] at hat
    have h1 : a.at_ ≠ 1 := by omega
    have e : a.act (some p) = a.wrs [p] := write_un a p.1 p.2 h1
    rw [List.map_cons, List.cons_append, AD.take, AD.takeE, hd, if_neg h1, if_neg h1, e]
    simp only [Bool.false_eq_true, if_false]
    have := ih (a.wrs [p]) hd (by show (if 0 < a.at_ then a.at_ - (1 : Nat) else a.at_) ≤ 0 ∨ _ < (if 0 < a.at_ then a.at_ - (1 : Nat) else a.at_); split <;> omega)
    rw [wrs_wrs a p ws (by omega)] at this
    exact this
theorem take_flush (a : AD) (r : List WA) (hd : a.down = false) (hat : a.at_ ≠ 1) : a.take (none :: r) = a.fls.take r ∧ a.takeE (none :: r) = a.fls.takeE r := by
  rw [AD.take, AD.takeE, hd, if_neg hat, if_neg hat]
  simp only [Bool.false_eq_true, if_false]
  rw [show a.act none = a.fls from flush_un a hat]
  exact ⟨rfl, rfl⟩
/-- the power goes: those writes are kept that are to be kept -/
def AD.cutW (a : AD) (kp : Nat → Bool) : AD := { a with las := fw a.las (sel kp a.P a.P.length), P := [], down := true, at_ := 0 }
theorem take_flush_cut (a : AD) (r : List WA) (hd : a.down = false) (hat : a.at_ = 1) : a.take (none :: r) = ({ a with fl := a.fl + 1 } : AD).cutW (kpOf a.keep) ∧ a.takeE (none :: r) = 30 := by
  rw [AD.take, AD.takeE, hd, if_pos hat, if_pos hat]
  simp only [Bool.false_eq_true, if_false, and_true]
  show a.flush = _
  unfold AD.flush
  rw [if_pos hat]
  unfold AD.cut
  rw [AD.settle_fw]; rfl
theorem take_writes_cut (a : AD) (ws : List (Nat × List Int)) (r : List WA) (hd : a.down = false) (k : Nat) (hk : a.at_ = (k : Int) + 1) (hat : k < ws.length) :
    a.take (ws.map some ++ r) = (a.wrs (ws.take (k + 1))).cutW (kpOf a.keep) ∧ a.takeE (ws.map some ++ r) = 30 := by
  induction ws generalizing a k with
  | nil => simp at hat
  | cons p ws ih =>
    cases k with
    | zero =>
      have h1 : a.at_ = 1 := by omega
      rw [List.map_cons, List.cons_append, AD.take, AD.takeE, hd, if_pos h1, if_pos h1]
      simp only [Bool.false_eq_true, if_false, and_true]
      show a.write p.1 p.2 = _
      unfold AD.write
      rw [if_pos h1]
      unfold AD.cut
      rw [AD.settle_fw]; rfl
    | succ k =>
      have h1 : a.at_ ≠ 1 := by omega
      have e : a.act (some p) = a.wrs [p] := write_un a p.1 p.2 h1
      rw [List.map_cons, List.cons_append, AD.take, AD.takeE, hd, if_neg h1, if_neg h1, e]
      simp only [Bool.false_eq_true, if_false]
      have := ih (a.wrs [p]) hd k (by show (if 0 < a.at_ then a.at_ - (1 : Nat) else a.at_) = _; split <;> omega) (by simpa using hat)
      rw [wrs_wrs a p _ (by omega)] at this
      exact this
end Go.Proofs.YtflienghgobmoaaGreatDoor

namespace Go.Proofs.YtflienghgobmoaaGreatDoor
open Go.RowKit Rec

/-- the log's numbers and data, and what is wrong with it -/
def logN (F : List Int) (nb : Nat) : List Int := numsL (bck F 1) nb
def logD (F : List Int) (k : Nat) : List (List Int) := (List.range k).map fun i => bck F (2 + i)
def logE (F : List Int) (nb : Nat) : Int := if nb < 98 then 31 else if numsE (bck F 1) nb = 0 then (if logN F nb = [] ∨ good (bck F 1) nb (logD F (logN F nb).length) = true then 0 else 41) else numsE (bck F 1) nb
def homes (ns : List Int) (ds : List (List Int)) : List (Nat × List Int) := List.zipWith (fun n d => (n.toNat, d)) ns ds
def logH (F : List Int) (nb : Nat) : List (Nat × List Int) := homes (logN F nb) (logD F (logN F nb).length)
def behind (F : List Int) (nb : Nat) : List Int := wr (fw F (logH F nb)) 1 zs
def homeA (Q : List (Nat × List Int)) : List WA := Q.map some ++ [none, some (1, zs), none]
def logW (ds : List (List Int)) : List (Nat × List Int) := (List.range ds.length).map fun i => (2 + i, row ds i)
def commitA (ns : List Int) (ds : List (List Int)) : List WA := (logW ds).map some ++ (none :: some (1, made ns ds) :: none :: homeA (homes ns ds))

theorem may_lt (ns : List Int) (n : Int) (h : may ns n = true) (i j : Nat) (hij : i < j) (hj : j < ns.length) : nth ns i < nth ns j := by
  have hm := of_decide_eq_true h
  induction j with
  | zero => omega
  | succ j ih =>
    have h1 := (hm (j + 1) hj).1
    have e : pre ns (j + 1) = nth ns j := by simp [pre]
    rw [e] at h1
    by_cases c : i = j
    · rw [c]; exact h1
    · have := ih (by omega) (by omega); omega
structure HomeOk (nb : Nat) (Q : List (Nat × List Int)) : Prop where
  once : Once1 Q
  len : ∀ p ∈ Q, p.2.length = 512
  lo : ∀ p ∈ Q, 98 ≤ p.1
  hi : ∀ p ∈ Q, p.1 < nb
theorem HomeOk.sub {nb : Nat} {Q R : List (Nat × List Int)} (h : HomeOk nb Q) (s : R.Sublist Q) : HomeOk nb R :=
  ⟨List.Pairwise.sublist s h.once, fun p hp => h.len p (s.subset hp), fun p hp => h.lo p (s.subset hp), fun p hp => h.hi p (s.subset hp)⟩
theorem homes_length (ns : List Int) (ds : List (List Int)) (h : ds.length = ns.length) : (homes ns ds).length = ns.length := by simp [homes, h]
theorem homes_get (ns : List Int) (ds : List (List Int)) (i : Nat) (hi : i < (homes ns ds).length) : (homes ns ds)[i] = ((nth ns i).toNat, row ds i) := by
  have h1 : i < ns.length := by simp [homes] at hi; omega
  have h2 : i < ds.length := by simp [homes] at hi; omega
  simp [homes, nth, row, List.getD, h1, h2]
theorem homes_ok (ns : List Int) (ds : List (List Int)) (nb : Nat) (hm : may ns nb = true) (hd : ∀ b ∈ ds, b.length = 512) : HomeOk nb (homes ns ds) := by
  have hb := pre_bd ns nb hm
  have key : ∀ p ∈ homes ns ds, ∃ i, i < ns.length ∧ i < ds.length ∧ p = ((nth ns i).toNat, row ds i) := by
    intro p hp
    obtain ⟨i, hi, rfl⟩ := List.getElem_of_mem hp
    have h1 : i < ns.length := by simp [homes] at hi; omega
    have h2 : i < ds.length := by simp [homes] at hi; omega
    exact ⟨i, h1, h2, homes_get ns ds i hi⟩
  refine ⟨?_, ?_, ?_, ?_⟩
  · refine List.pairwise_iff_getElem.2 fun i j hi hj hij => ?_
    rw [homes_get _ _ _ hi, homes_get _ _ _ hj]
    have h2 : j < ns.length := by simp [homes] at hj; omega
    have := may_lt ns nb hm i j hij h2
    have b1 := hb i (by omega)
    have b2 := hb j h2
    show (nth ns i).toNat ≠ (nth ns j).toNat
    omega
  · intro p hp
    obtain ⟨i, h1, h2, rfl⟩ := key p hp
    refine hd _ ?_
    show row ds i ∈ ds
    simp [row, List.getD, h2]
  · intro p hp
    obtain ⟨i, h1, h2, rfl⟩ := key p hp
    have := hb i h1
    show 98 ≤ (nth ns i).toNat
    omega
  · intro p hp
    obtain ⟨i, h1, h2, rfl⟩ := key p hp
    have := hb i h1
    show (nth ns i).toNat < nb
    omega
theorem numsL_ok (h : List Int) (n : Int) (hn : numsL h n ≠ []) : may (numsL h n) n = true ∧ 1 ≤ (numsL h n).length ∧ (numsL h n).length ≤ 96 := by
  unfold numsL at hn ⊢
  by_cases c : h.length = 512 ∧ zr h 0 512 = false ∧ isH h n = true
  · rw [if_pos c]
    have e := c.2.2
    simp only [isH, form, Bool.and_eq_true, decide_eq_true_eq] at e
    refine ⟨e.1.2, ?_, ?_⟩
    · simpa [nsOf] using e.1.1.2.1
    · simpa [nsOf] using e.1.1.2.2
  · rw [if_neg c] at hn; exact absurd rfl hn
theorem logN_len (F : List Int) (nb : Nat) : (logN F nb).length ≤ 96 := by
  by_cases c : logN F nb = []
  · rw [c]; exact Nat.zero_le _
  · exact (numsL_ok _ _ c).2.2
theorem logD_length (F : List Int) (k : Nat) : (logD F k).length = k := by simp [logD]
theorem logD_len (F : List Int) (k nb : Nat) (hl : F.length = 512 * nb) (hk : k ≤ 96) (hn : 98 ≤ nb) : ∀ b ∈ logD F k, b.length = 512 := by
  intro b hb
  simp only [logD, List.mem_map, List.mem_range] at hb
  obtain ⟨i, hi, rfl⟩ := hb
  exact bck_length _ _ nb hl (by omega)
theorem logH_ok (F : List Int) (nb : Nat) (hl : F.length = 512 * nb) (hn : 98 ≤ nb) : HomeOk nb (logH F nb) := by
  by_cases c : logN F nb = []
  · unfold logH; rw [c]; exact ⟨List.Pairwise.nil, nofun, nofun, nofun⟩
  · exact homes_ok _ _ _ (numsL_ok _ _ c).1 (logD_len F _ nb hl (logN_len F nb) hn)
theorem same_log {F G : List Int} {nb : Nat} (h : ∀ b, 1 ≤ b → b < 98 → bck F b = bck G b) : logN F nb = logN G nb ∧ logH F nb = logH G nb ∧ logE F nb = logE G nb := by
  have e1 : bck F 1 = bck G 1 := h 1 (by omega) (by omega)
  have e2 : logN F nb = logN G nb := by unfold logN; rw [e1]
  have e3 : logD F (logN F nb).length = logD G (logN G nb).length := by
    rw [e2]
    unfold logD
    refine List.map_congr_left fun i hi => ?_
    have := logN_len G nb
    rw [List.mem_range] at hi
    exact h _ (by omega) (by omega)
  refine ⟨e2, ?_, ?_⟩
  · unfold logH; rw [e3, e2]
  · unfold logE; rw [e3, e2, e1]
theorem fw_low {F : List Int} {nb : Nat} {Q : List (Nat × List Int)} (hl : F.length = 512 * nb) (hQ : HomeOk nb Q) (b : Nat) (hb : b < 98) (hn : 98 ≤ nb) : bck (fw F Q) b = bck F b :=
  bck_fw_out F Q b nb hl hQ.len (by omega) (fun p hp e => by have := hQ.lo p hp; omega)
theorem behind_length (F : List Int) (nb : Nat) : (behind F nb).length = F.length := by rw [behind, wr_length, fw_length]
theorem bck_behind (F : List Int) (nb b : Nat) (hl : F.length = 512 * nb) (hb : b < nb) : bck (behind F nb) b = if b = 1 then zs else bck (fw F (logH F nb)) b := by
  rw [behind, bck_wr _ _ _ _ nb (by rw [fw_length, hl]) zs_length hb]
/-- some of what the log holds is in its place already: nothing of what is behind the log has changed -/
theorem behind_home {F : List Int} {nb : Nat} {Q : List (Nat × List Int)} (hl : F.length = 512 * nb) (hn : 98 ≤ nb) (s : Q.Sublist (logH F nb)) :
    logE (fw F Q) nb = logE F nb ∧ logH (fw F Q) nb = logH F nb ∧ logN (fw F Q) nb = logN F nb ∧ behind (fw F Q) nb = behind F nb := by
  have hH := logH_ok F nb hl hn
  have hQ := hH.sub s
  obtain ⟨e1, e2, e3⟩ := same_log (F := fw F Q) (G := F) (nb := nb) (fun b h1 h2 => fw_low hl hQ b h2 hn)
  refine ⟨e3, e2, e1, ?_⟩
  refine ext_bck nb (by rw [behind_length, fw_length, hl]) (by rw [behind_length, hl]) fun b hb => ?_
  rw [bck_behind _ _ _ (by rw [fw_length, hl]) hb, bck_behind _ _ _ hl hb, e2]
  split
  · rfl
  · by_cases c : ∃ p ∈ logH F nb, p.1 = b
    · obtain ⟨p, hp, rfl⟩ := c
      rw [bck_fw_in _ _ nb (by rw [fw_length, hl]) hH.len hH.hi hH.once p hp, bck_fw_in _ _ nb hl hH.len hH.hi hH.once p hp]
    · have c' : ∀ p ∈ logH F nb, p.1 ≠ b := fun p hp e => c ⟨p, hp, e⟩
      rw [bck_fw_out _ _ _ nb (by rw [fw_length, hl]) hH.len hb c', bck_fw_out _ _ _ nb hl hQ.len hb (fun p hp => c' p (s.subset hp)), bck_fw_out _ _ _ nb hl hH.len hb c']
theorem zr_zs0 : zr zs 0 512 = true := by
  refine decide_eq_true fun i hi => ?_
  exact nth_zs _
/-- an empty log -/
theorem log_empty {F : List Int} {nb : Nat} (hn : 98 ≤ nb) (h : bck F 1 = zs) : logN F nb = [] ∧ logH F nb = [] ∧ logE F nb = 0 := by
  have e1 : logN F nb = [] := by unfold logN numsL; rw [h, if_neg (by rw [zr_zs0]; simp)]
  have e2 : numsE (bck F 1) nb = 0 := by unfold numsE; rw [h, if_pos zs_length, if_pos zr_zs0]
  exact ⟨e1, by unfold logH; rw [e1]; rfl, by unfold logE; rw [if_neg (by omega), if_pos e2, if_pos (.inl e1)]⟩
theorem behind_empty {F : List Int} {nb : Nat} (hl : F.length = 512 * nb) (hn : 98 ≤ nb) (h : bck F 1 = zs) : behind F nb = F := by
  refine ext_bck nb (by rw [behind_length, hl]) hl fun b hb => ?_
  rw [bck_behind _ _ _ hl hb, (log_empty hn h).2.1, fw_nil]
  split
  · rename_i c; rw [c, h]
  · rfl
theorem behind_one (F : List Int) (nb : Nat) (hl : F.length = 512 * nb) (hn : 98 ≤ nb) : bck (behind F nb) 1 = zs := by rw [bck_behind _ _ _ hl (by omega), if_pos rfl]
/-- the same, blocks 2 to 97 aside -/
def Like (nb : Nat) (F G : List Int) : Prop := ∀ b, b < nb → (b < 2 ∨ 98 ≤ b) → bck F b = bck G b
/-- what lasts is good, and behind its log it is as it should be -/
structure Well (nb : Nat) (want F : List Int) : Prop where
  len : F.length = 512 * nb
  ok : logE F nb = 0
  like : Like nb (behind F nb) want
theorem Well.home {nb : Nat} {want F : List Int} {Q : List (Nat × List Int)} (h : Well nb want F) (hn : 98 ≤ nb) (s : Q.Sublist (logH F nb)) : Well nb want (fw F Q) ∧ logH (fw F Q) nb = logH F nb := by
  obtain ⟨e1, e2, e3, e4⟩ := behind_home h.len hn s
  exact ⟨⟨by rw [fw_length]; exact h.len, by rw [e1]; exact h.ok, by rw [e4]; exact h.like⟩, e2⟩
theorem Well.done {nb : Nat} {want F : List Int} (h : Well nb want F) (hn : 98 ≤ nb) : Well nb want (behind F nb) := by
  have e := behind_one F nb h.len hn
  have hl : (behind F nb).length = 512 * nb := by rw [behind_length]; exact h.len
  exact ⟨hl, (log_empty hn e).2.2, by rw [behind_empty hl hn e]; exact h.like⟩
end Go.Proofs.YtflienghgobmoaaGreatDoor

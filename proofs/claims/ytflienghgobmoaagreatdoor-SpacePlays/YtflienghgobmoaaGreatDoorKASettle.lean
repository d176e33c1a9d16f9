import Derived.Test.YtflienghgobmoaaGreatDoorKFit
import Derived.Deep.DeepCutAuto
import Derived.Deep.RegionLaw
namespace Go.Proofs.YtflienghgobmoaaGreatDoor
open Go.RowKit Rec

theorem sizeU8 : (Tryz.prog.info? 5).map (·.size) = some 1 := by kernel_rfl
theorem copyB_run {w : World} {g cap off dLen dCap : Nat} {l : List Int} (ty : TypeId) (ad : Addr) (sLen sCap : Nat) (m : List Int) (hO : OwnB w g cap l) (hb : Bytes w (some ad) m) (hm : m.length = sLen) (hle : sLen ≤ dLen) (hfit : off + sLen ≤ l.length) :
    ∃ w', (Builtin.copy_ #[22, 22] ty #[.slice (some ⟨g, off, none⟩) dLen dCap, .slice (some ad) sLen sCap]).run Tryz.prog w = .ok (.int .i64 sLen) w' ∧ OwnB w' g cap (ov l off sLen (nth m)) ∧ Fr (fun k => k = g) w w' := by
  obtain ⟨cur, h1, h2, h3⟩ := hO.row
  have hr := hO.room
  have hlen : (m.map (Value.int .u8)).length = Nat.min sLen dLen := by
    rw [List.length_map, hm]; exact (Nat.min_eq_left hle).symm
  have hrun := run_copy_row (P := Tryz.prog) w 22 22 ty 5 g off dLen dCap ad sLen sCap cur 5 (m.map (Value.int .u8)) Tryz.underlying22 sizeU8 h1 hlen hb.news (by rw [List.length_map, hm]; omega) (cells_u8 m)
  refine ⟨_, by rw [hrun, List.length_map, hm]; rfl, ⟨⟨_, setRow_heap w g _ _ _ _ h1, ?_, ?_⟩, by rw [ov_length]; exact hO.len, by rw [ov_length]; exact hr, hO.top, fun i => wf_ov _ _ _ _ hO.wf (fun j _ => hb.wf j) i⟩, ⟨rfl, rfl, rfl, by simp [World.setRow], fun k _ hk => setRow_other w g k _ hk⟩⟩
  · rw [← Array.length_toList] at h2
    simp only [List.size_toArray, List.length_append, List.length_take, List.length_drop, List.length_map]; omega
  · rw [← Array.length_toList] at h2
    have hcut : cur.toList = l.map (Value.int .u8) ++ cur.toList.drop l.length := by rw [← h3, List.take_append_drop]
    rw [ov_length]
    show List.take l.length (cur.toList.take off ++ m.map (Value.int .u8) ++ cur.toList.drop (off + sLen)) = _
    apply List.ext_getElem?
    intro i
    by_cases hi : i < l.length
    · rw [List.getElem?_take_of_lt hi, nth_cellL _ _ (by rw [ov_length]; exact hi), nth_ov _ _ _ _ _ hi]
      have hci : cur.toList[i]? = some (.int .u8 (nth l i)) := by
        rw [← nth_cellL l i hi, ← h3, List.getElem?_take_of_lt hi]
      by_cases h4 : i < off
      · rw [if_neg (by omega), List.append_assoc, List.getElem?_append_left (by rw [List.length_take]; omega), List.getElem?_take_of_lt h4]; exact hci
      · by_cases h5 : i < off + sLen
        · rw [if_pos (by omega), List.getElem?_append_left (by rw [List.length_append, List.length_take, List.length_map]; omega), List.getElem?_append_right (by rw [List.length_take]; omega), List.length_take, show i - min off cur.toList.length = i - off by omega, nth_cellL _ _ (by omega)]
        · rw [if_neg (by omega), List.getElem?_append_right (by rw [List.length_append, List.length_take, List.length_map]; omega), List.getElem?_drop, List.length_append, List.length_take, List.length_map, show off + sLen + (i - (min off cur.toList.length + m.length)) = i by omega]; exact hci
    · rw [List.getElem?_eq_none (by rw [List.length_take]; omega), List.getElem?_eq_none (by rw [List.length_map, ov_length]; omega)]
/-- is it among what is kept? -/
def kpOf (keep : List Bool) (k : Nat) : Bool := keep.getD k false
set_option maxRecDepth 100000 in
set_option maxHeartbeats 800000 in
theorem all_any (w : World) (k : Int) : Calls Tryz.prog 187 #[.int .i64 k] w fun e w' => e = .returned (.bool true) ∧ w = w' := by
  go_enter Tryz.func187, Tryz.ntmps187
  go_wp2
  go_ret
  exact ⟨rfl, rfl⟩
set_option maxRecDepth 100000 in
set_option maxHeartbeats 800000 in
theorem keep_any (w : World) (c : Nat) (v : Value) (keep : List Bool) (k : Nat) (hc : w.cell? ⟨c, 0, none⟩ = some v) (hv : Bools w v keep) (hl : keep.length ≤ 9223372036854775807) : Calls Tryz.prog 87 #[.int .i64 k, .pointer (some ⟨c, 0, none⟩)] w fun e w' => e = .returned (.bool (kpOf keep k)) ∧ w = w' := by
  obtain ⟨a, cp, rfl, hb⟩ := hv
  unfold kpOf
  by_cases h : k < keep.length
  · rcases hb with rfl | ⟨b, off, rfl, hbc⟩
    · simp at h
    · have e : keep.getD k false = keep[k] := by simp [List.getD, h]
      have d := hbc k keep[k] (by simp [h])
      rw [e]
      generalize keep[k] = x at *
      clear hbc e
      go_enter Tryz.func87, Tryz.ntmps87
      go_wp2
      go_ret
      exact ⟨rfl, rfl⟩
  · have e : keep.getD k false = false := by simp [List.getD, Nat.le_of_not_lt h]
    rw [e]
    clear hb e
    go_enter Tryz.func87, Tryz.ntmps87
    go_wp2
    go_ret
    exact ⟨rfl, rfl⟩
/-- copy, as a step of a region that draws -/
theorem step_copyB {ops : Array Oper} {o : Oper} {a : Act} {w : World} {K : Act → World → Prop} {Q : Exit → Act → World → Prop} {E : Prop} (hgd : o.guard = none) (d s : Operand)
    (ho : o.op = .call { callee := .builtin .copy, args := #[d, s], argTypes := #[22, 22] }) (g cap off dLen dCap : Nat) (l : List Int) (ad : Addr) (sLen sCap : Nat) (m : List Int)
    (hd : a.eval d = .slice (some ⟨g, off, none⟩) dLen dCap) (hs : a.eval s = .slice (some ad) sLen sCap) (hO : OwnB w g cap l) (hb : Bytes w (some ad) m) (hm : m.length = sLen) (hle : sLen ≤ dLen) (hfit : off + sLen ≤ l.length)
    (h : ∀ w', OwnB w' g cap (ov l off sLen (nth m)) → Fr (fun k => k = g) w w' → K (a.put o.dst (.int .i64 sLen)) w') :
    if Region.wanted o (yielded ops a.tmps) = true then Oper.wp Tryz.prog o a w K Q else E := by
  have hw : Region.wanted o (yielded ops a.tmps) = true := by simp [Region.wanted, hgd]
  rw [if_pos hw]
  obtain ⟨w', hrun, h1, h2⟩ := copyB_run (dCap := dCap) o.type ad sLen sCap m hO hb hm hle hfit
  unfold Oper.wp
  simp only [execOp, ho, resolve, invoke, builtin, Sem.run_bind, Sem.run_pure, Result.andThen_ok, List.map_toArray, List.map_cons, List.map_nil, hd, hs, hrun]
  exact h w' h1 h2
end Go.Proofs.YtflienghgobmoaaGreatDoor

namespace Go.Proofs.YtflienghgobmoaaGreatDoor
open Go.RowKit Rec

/-- a row, empty again -/
def pv0 : Value → Value
  | .slice a _ c => .slice a 0 c
  | v => v
theorem pv0_block (v : Value) : (pv0 v).ownBlock = v.ownBlock := by
  cases v <;> first | rfl | (rename_i a _ _; cases a <;> rfl)
/-- the disk behind a settling -/
def Dk.settled (D : Dk) (kp : Nat → Bool) : Dk := { D with las := lay kp D.f D.X D.las D.pen.length, pv := pv0 D.pv, pen := [] }
/-- within the settling -/
structure Mid (w wr : World) (D : Dk) (kp : Nat → Bool) (j k : Nat) : Prop where
  las : OwnB wr D.L D.capL (lay kp D.f D.X D.las j)
  nws : wr.ownsRow 0 3 1 (.slice (some ⟨D.nw, 0, none⟩) D.nb D.capN) D.nb ((nz D.f (newest D.f D.nb D.pen.length) k).map (Value.int .i64))
  fr : Fr (fun j => j = D.L ∨ j = D.nw) w wr
theorem Mid.start {w : World} {D : Dk} (h : Disk w D) (kp : Nat → Bool) : Mid w w D kp 0 0 := ⟨h.las, h.nws, Fr.refl _ _⟩
theorem Mid.has {w wr : World} {D : Dk} {kp : Nat → Bool} {j k : Nat} (m : Mid w wr D kp j k) : Fr D.has w wr := m.fr.mono (fun _ hj => hj.elim (fun e => .inr (.inl e)) (fun e => .inr (.inr (.inl e))))
theorem Mid.row {w wr : World} {D : Dk} {kp : Nat → Bool} {j k : Nat} (m : Mid w wr D kp j k) (h : Disk w D) : wr.heap[D.d]? = some (.cells D.cells 90 (0, 0)) :=
  m.fr.heap h.row (fun e => e.elim h.ap.dL h.ap.dn)
theorem Mid.pen {w wr : World} {D : Dk} {kp : Nat → Bool} {j k : Nat} (m : Mid w wr D kp j k) (h : Disk w D) : wr.ownsRow 0 180 2 D.pv D.pen.length (D.pen.flatMap It.cells) :=
  owns_fr h.pen m.fr (fun j hj e => by have := h.ap.p j hj; exact e.elim this.2.1 this.2.2.1)
theorem Mid.on {w wr wa : World} {D : Dk} {kp : Nat → Bool} {j k : Nat} (m : Mid w wr D kp j k) (x : Below wr.heap.size wr wa) : Mid w wa D kp j k :=
  ⟨m.las.on x, owns_fr m.nws (below_fr x (fun j => wr.heap.size ≤ j)) (fun j hj => by cases hj; exact Nat.not_le.2 (owns_block m.nws rfl)), m.fr.trans (below_fr x (fun j => wr.heap.size ≤ j)) (fun j hj => .inr (Nat.le_trans m.fr.size hj))⟩
theorem Mid.item {w wr : World} {D : Dk} {kp : Nat → Bool} {j k : Nat} (m : Mid w wr D kp j k) (h : Disk w D) {p : It} (hp : p ∈ D.pen) : OwnB wr p.g p.cap p.x :=
  (h.penb p hp).2.2.1.fr m.fr (fun e => (h.penb p hp).2.2.2 (e.elim (fun e => .inr (.inl e)) (fun e => .inr (.inr (.inl e)))))
theorem Mid.facts {w wr : World} {D : Dk} {kp : Nat → Bool} {j k : Nat} (m : Mid w wr D kp j k) (h : Disk w D) (b : Nat) (hb : b < D.nb) : wr.cell? ⟨D.d, 2, none⟩ = some (.slice (some ⟨D.nw, 0, none⟩) D.nb D.capN) ∧ (∃ u, wr.cell? ⟨D.nw, b, none⟩ = some (.int .i64 u)) ∧ wr.frozen? ⟨D.nw, b, none⟩ = false := by
  obtain ⟨a, c, hv, _, _, hc⟩ := owns_slice m.nws
  cases hv
  refine ⟨cell_of_row _ _ _ _ _ _ (m.row h), ⟨nth (nz D.f (newest D.f D.nb D.pen.length) k) b, (hc _ _ rfl).2.1 b _ ?_⟩, (hc _ _ rfl).2.2 b⟩
  have : b < (nz D.f (newest D.f D.nb D.pen.length) k).length := by rw [nz_length, newest_length]; exact hb
  simp [nth, List.getD, this]
theorem Mid.laid {w wa wx w3 : World} {D : Dk} {kp : Nat → Bool} {k : Nat} {p : It} (m : Mid w wa D kp k k) (hk : kp k = true) (hf : D.f k = p.b) (hX : D.X k = p.x) (hx : Below wa.heap.size wa wx) (ho : OwnB w3 D.L D.capL (ov (lay kp D.f D.X D.las k) (512 * p.b) 512 (nth p.x))) (f3 : Fr (fun k => k = D.L) wx w3) (h : Disk w D) : Mid w w3 D kp (k + 1) k := by
  have mx := m.on hx
  refine ⟨?_, owns_fr mx.nws f3 (fun j hj e => by cases hj; exact h.ap.Ln e.symm), mx.fr.trans f3 (fun j e => .inl (.inl e))⟩
  rw [lay, if_pos hk, hf, hX]; exact ho
theorem Mid.left {w wa : World} {D : Dk} {kp : Nat → Bool} {k : Nat} (m : Mid w wa D kp k k) (hk : kp k = false) : Mid w wa D kp (k + 1) k := by
  refine ⟨?_, m.nws, m.fr⟩
  rw [lay, if_neg (by rw [hk]; decide)]; exact m.las
theorem Mid.zeroed {w wa : World} {D : Dk} {kp : Nat → Bool} {j k : Nat} {b : Nat} (m : Mid w wa D kp j k) (hf : D.f k = b) (h : Disk w D) : Mid w (wa.setCell ⟨D.nw, b, none⟩ (.int .i64 0)) D kp j (k + 1) := by
  refine ⟨m.las.fr Fr.set (fun e => h.ap.Ln e), ?_, m.fr.trans Fr.set (fun j e => .inl (.inr e))⟩
  have := owns_set m.nws b (.int .i64 0)
  rw [← List.map_set, ← hf] at this
  rw [nz, ← hf]; exact this
/-- at the end -/
theorem settled_disk {w wr : World} {D : Dk} {kp : Nat → Bool} (h : Disk w D) (m : Mid w wr D kp D.pen.length D.pen.length) (w' : World) (hw' : w' = wr.setCell ⟨D.d, 1, none⟩ (pv0 D.pv)) : Disk w' (D.settled kp) ∧ Fr D.has w w' := by
  subst hw'
  have fs : Fr (fun i => i = D.d) wr (wr.setCell ⟨D.d, 1, none⟩ (pv0 D.pv)) := Fr.set
  have hfr : Fr D.has w (wr.setCell ⟨D.d, 1, none⟩ (pv0 D.pv)) := m.has.trans fs (fun k e => .inl (.inl e))
  have hsame : ∀ k, (D.settled kp).has k ↔ D.has k := fun k => by
    simp only [Dk.has, Dk.settled, pv0_block]
  refine ⟨?_, hfr⟩
  exact {
    row := by
      exact heap_setCell_same _ _ _ _ _ _ (m.row h)
    las := m.las.fr fs (fun e => h.ap.dL e.symm)
    lasl := by show (lay _ _ _ _ _).length = _; rw [lay_length]; exact h.lasl
    nb0 := h.nb0
    nb1 := h.nb1
    nws := by
      have e : newest (D.settled kp).f D.nb 0 = List.replicate D.nb 0 := newest_zero _ _
      have e2 : nz D.f (newest D.f D.nb D.pen.length) D.pen.length = List.replicate D.nb 0 := nz_newest _ _ _ (fun j hj => by
        obtain ⟨p, _, hp, hf, _⟩ := penX D j hj
        rw [hf]; exact (h.penb p hp).1)
      have := owns_fr m.nws fs (fun k hk e => by cases hk; exact h.ap.dn e.symm)
      rw [e2, ← e] at this
      exact this
    pen := by
      refine ⟨rfl, ?_⟩
      rcases h.pen.2 with ⟨hv, _⟩ | ⟨g, cap, cur, hv, h1, hg, h2, h3, h4, h5⟩
      · exact .inl ⟨by show pv0 D.pv = _; rw [hv]; rfl, rfl⟩
      · refine .inr ⟨g, cap, cur, by show pv0 D.pv = _; rw [hv]; rfl, h1, ?_, Nat.zero_le _, h3, h4, by simp [Dk.settled]⟩
        have hn := h.ap.p g (by rw [hv]; rfl)
        exact fs.heap (m.fr.heap hg (fun e => e.elim hn.2.1 hn.2.2.1)) hn.1
    penb := fun p hp => by cases hp
    tap := owns_fr (owns_fr h.tap m.fr (fun j hj e => e.elim (h.ap.t j hj).2.1 (h.ap.t j hj).2.2.1)) fs (fun j hj => (h.ap.t j hj).1)
    tapb := fun a ha => by
      rcases h.tapb a ha with ⟨h1, h2, h3, h4, g, cap, h5, h6, h7⟩ | h'
      · exact .inl ⟨h1, h2, h3, h4, g, cap, h5, h6.fr hfr h7, fun e => h7 ((hsame g).1 e)⟩
      · exact .inr h'
    kee := h.kee.fr hfr (fun _ => h.keb)
    keb := fun k hk e => h.keb k hk ((hsame k).1 e)
    kel := fun k hk => Nat.lt_of_lt_of_le (h.kel k hk) hfr.size
    ap := ⟨h.ap.dL, h.ap.dn, h.ap.Ln, (fun k hk => h.ap.p k (by rw [← pv0_block]; exact hk)), (fun k hk => by
      have := h.ap.t k hk
      exact ⟨this.1, this.2.1, this.2.2.1, by show (pv0 D.pv).ownBlock ≠ _; rw [pv0_block]; exact this.2.2.2⟩)⟩
    dn := fun _ => rfl
    pl := by show 0 ≤ _; omega
    tl := h.tl
    wrs := h.wrs
    fls := h.fls
    at1 := h.at1 }
set_option maxRecDepth 100000 in
set_option maxHeartbeats 1600000 in
theorem settle_all (w : World) (D : Dk) (h : Disk w D) :
    Calls Tryz.prog 86 #[.pointer (some ⟨D.d, 0, none⟩), .func (.func 187) #[] #[]] w fun e w' => e = .returned (.tuple #[]) ∧ Disk w' (D.settled (fun _ => true)) ∧ Fr D.has w w' := by
  obtain ⟨pa, pc, hv, hpc, hga, hcc⟩ := owns_slice h.pen
  have C1 : w.cell? ⟨D.d, 1, none⟩ = some (.slice pa D.pen.length pc) := by rw [← hv]; exact h.cell 1
  have hpl := h.pl
  have HD : Hid (Disk w D) := h
  clear h hcc
  go_enter Tryz.func86, Tryz.ntmps86
  go_wp2
  go_loopw [4, 5, 11, 12, 13, 14, 15, 16, 17, 18, 19, 20, 21, 22, 23, 24, 25, 26, 27, 28, 29, 30, 31, 32, 33, 34, 35, 36, 37, 38] (fun _ _ i _ _ _ _ _ _ _ _ _ _ _ _ _ _ _ _ _ _ _ _ _ _ _ _ _ _ _ wr => ∃ k : Nat, k ≤ D.pen.length ∧ i = .int .i64 k ∧ Mid w wr D (fun _ => true) k k) (fun _ _ i _ _ _ _ _ _ _ _ _ _ _ _ _ _ _ _ _ _ _ _ _ _ _ _ _ _ _ _ => D.pen.length - (intOf i).toNat)
  case atStart => exact ⟨0, Nat.zero_le _, rfl, Mid.start HD.out _⟩
  case round =>
    obtain ⟨k, hk, rfl, hm⟩ := hrel
    have HM : Hid (Mid w wr D (fun _ => true) k k) := hm
    have D1 : wr.cell? ⟨D.d, 1, none⟩ = some (.slice pa D.pen.length pc) := by rw [← hv]; exact cell_of_row _ _ _ _ _ _ (hm.row HD.out)
    clear hm C1
    by_cases hlt : k < D.pen.length
    · obtain ⟨p, _, hp, hfk, hxk, c1, c2⟩ := penX D k hlt
      obtain ⟨pa', pc', hv', _, _, hcc⟩ := owns_slice (HM.out.pen HD.out)
      rw [hv] at hv'
      cases hv'
      obtain ⟨g, rfl⟩ := hga.resolve_left (by omega)
      have d1 := (hcc g 0 rfl).2.1 _ _ c1
      have d2 := (hcc g 0 rfl).2.1 _ _ c2
      clear hcc c1 c2
      have HP : Hid (p ∈ D.pen ∧ D.f k = p.b ∧ D.X k = p.x) := ⟨hp, hfk, hxk⟩
      have hpb := (HD.out.penb p hp).1
      clear hp hfk hxk hga
      have HA : Hid (Below wr.heap.size wr (wr.alloc (.cells #[.int .i64 p.b, .slice (some ⟨p.g, 0, none⟩) 512 p.cap] 180))) := (Below.refl _ _).alloc (Nat.le_refl _) _
      have hrow := heap_alloc_new wr (.cells #[.int .i64 p.b, .slice (some ⟨p.g, 0, none⟩) 512 p.cap] 180)
      have HS : Hid (∀ j, (wr.alloc (.cells #[.int .i64 p.b, .slice (some ⟨p.g, 0, none⟩) 512 p.cap] 180)).cell? ⟨wr.heap.size, j, none⟩ = (#[Value.int .i64 p.b, .slice (some ⟨p.g, 0, none⟩) 512 p.cap])[j]?) := fun j => cell_of_row _ _ _ _ _ _ hrow
      clear hrow
      go_wp2_with (go_at_call 187; refine (all_any _ _).mono ?_; rintro e w' ⟨rfl, rfl⟩)
      generalize hwa : wr.alloc (.cells #[.int .i64 p.b, .slice (some ⟨p.g, 0, none⟩) 512 p.cap] 180) = wa at *
      have HMa : Hid (Mid w wa D (fun _ => true) k k) := HM.out.on HA.out
      have S0 : wa.cell? ⟨wr.heap.size, 0, none⟩ = some (.int .i64 p.b) := HS.out 0
      have S1 : wa.cell? ⟨wr.heap.size, 1, none⟩ = some (.slice (some ⟨p.g, 0, none⟩) 512 p.cap) := HS.out 1
      have HB : Hid (Below wa.heap.size wa wa.drew) := (Below.refl _ wa).drew
      have HQ : Hid (D.nb ≤ 16384 ∧ 512 * D.nb ≤ D.capL ∧ p.x.length = 512 ∧ 512 * p.b + 512 ≤ (lay (fun _ => true) D.f D.X D.las k).length) := ⟨HD.out.nb1, by have := HD.out.las.room; rw [HD.out.lasl] at this; exact this, (HD.out.penb p HP.out.1).2.1, by rw [lay_length, HD.out.lasl]; omega⟩
      have HL : Hid (¬ wr.heap.size = D.L) := by have := HD.out.las.lt; have := HM.out.fr.size; show ¬ _; omega
      have HR : Hid (wa.drew.cell? ⟨D.d, 0, none⟩ = some (.slice (some ⟨D.L, 0, none⟩) (512 * D.nb) D.capL)) := cell_of_row _ _ _ _ _ _ ((HMa.out.on HB.out).row HD.out)
      clear HS hwa D1 d1 d2 HM HA
      go_region_law (first
        | (refine step_copyB rfl (.tmp 27) (.tmp 29) rfl D.L D.capL (512 * p.b) 512 (D.capL - 512 * p.b) (lay (fun _ => true) D.f D.X D.las k) ⟨p.g, 0, none⟩ 512 p.cap p.x (by simp [Act.eval]) (by simp [Act.eval]) (HMa.out.las.on HB.out) ((HMa.out.item HD.out HP.out.1).bytes.on HB.out) HQ.out.2.2.1 (Nat.le_refl _) HQ.out.2.2.2 ?_; intro w3 ho hf; have HO : Hid (OwnB w3 D.L D.capL (ov (lay (fun _ => true) D.f D.X D.las k) (512 * p.b) 512 (nth p.x))) := ho; have HM3 : Hid (Mid w w3 D (fun _ => true) (k + 1) k) := HMa.out.laid rfl HP.out.2.1 HP.out.2.2 HB.out ho hf HD.out; have T0 : w3.cell? ⟨wr.heap.size, 0, none⟩ = some (.int .i64 p.b) := hf.cell (by rw [HB.out.cell (p := ⟨wr.heap.size, 0, none⟩) (block_lt_of_cell S0)]; exact S0) HL.out; have T1 := (HM3.out.facts HD.out p.b hpb).1; obtain ⟨u, T2⟩ := (HM3.out.facts HD.out p.b hpb).2.1; have T3 := (HM3.out.facts HD.out p.b hpb).2.2; clear ho hf)
        | (go_simp; go_at_call 128; refine (dblock_min _ D.d D.L D.nb D.capL HR.out HQ.out.1 HQ.out.2.1 p.b hpb).mono ?_; rintro e w' ⟨rfl, rfl⟩))
      all_goals
        clear S0 S1
        go_wp2
        go_region
        all_goals
          go_wp2
          refine ⟨⟨_, hlt, rfl, ?_⟩, by simp [intOf]; omega⟩
          first
            | exact (HM3.out.on ((Below.refl _ w3).drew)).zeroed HP.out.2.1 HD.out
            | exact (HM3.out.zeroed HP.out.2.1 HD.out).on ((Below.refl _ _).drew)
    · have F1 := frozen_of_row wr D.d 1 _ _ (HM.out.row HD.out)
      obtain rfl : k = D.pen.length := by omega
      go_wp2
      go_end0
      exact ⟨rfl, settled_disk HD.out HM.out _ (by rw [hv]; rfl)⟩
end Go.Proofs.YtflienghgobmoaaGreatDoor

namespace Go.Proofs.YtflienghgobmoaaGreatDoor
open Go.RowKit Rec

set_option maxRecDepth 100000 in
set_option maxHeartbeats 1600000 in
theorem settle_keep (w : World) (D : Dk) (h : Disk w D) (c : Nat) (v : Value) (keep : List Bool) (hc : w.cell? ⟨c, 0, none⟩ = some v) (hcn : ¬ D.has c) (hkv : Bools w v keep) (hkn : keep ≠ [] → ∀ k, v.ownBlock = some k → ¬ D.has k) (hkl : keep.length ≤ 9223372036854775807) :
    Calls Tryz.prog 86 #[.pointer (some ⟨D.d, 0, none⟩), .func (.func 87) #[] #[.pointer (some ⟨c, 0, none⟩)]] w fun e w' => e = .returned (.tuple #[]) ∧ Disk w' (D.settled (kpOf keep)) ∧ Fr D.has w w' := by
  obtain ⟨pa, pc, hv, hpc, hga, hcc⟩ := owns_slice h.pen
  have C1 : w.cell? ⟨D.d, 1, none⟩ = some (.slice pa D.pen.length pc) := by rw [← hv]; exact h.cell 1
  have hpl := h.pl
  have HD : Hid (Disk w D) := h
  have HK : Hid (∀ wx, Fr D.has w wx → wx.cell? ⟨c, 0, none⟩ = some v ∧ Bools wx v keep) := fun wx x => ⟨x.cell hc hcn, hkv.fr x hkn⟩
  clear h hcc hc hkv hkn
  go_enter Tryz.func86, Tryz.ntmps86
  go_wp2
  go_loopw [4, 5, 11, 12, 13, 14, 15, 16, 17, 18, 19, 20, 21, 22, 23, 24, 25, 26, 27, 28, 29, 30, 31, 32, 33, 34, 35, 36, 37, 38] (fun _ _ i _ _ _ _ _ _ _ _ _ _ _ _ _ _ _ _ _ _ _ _ _ _ _ _ _ _ _ wr => ∃ k : Nat, k ≤ D.pen.length ∧ i = .int .i64 k ∧ Mid w wr D (kpOf keep) k k) (fun _ _ i _ _ _ _ _ _ _ _ _ _ _ _ _ _ _ _ _ _ _ _ _ _ _ _ _ _ _ _ => D.pen.length - (intOf i).toNat)
  case atStart => exact ⟨0, Nat.zero_le _, rfl, Mid.start HD.out _⟩
  case round =>
    obtain ⟨k, hk, rfl, hm⟩ := hrel
    have HM : Hid (Mid w wr D (kpOf keep) k k) := hm
    have D1 : wr.cell? ⟨D.d, 1, none⟩ = some (.slice pa D.pen.length pc) := by rw [← hv]; exact cell_of_row _ _ _ _ _ _ (hm.row HD.out)
    clear hm C1
    by_cases hlt : k < D.pen.length
    · obtain ⟨p, _, hp, hfk, hxk, c1, c2⟩ := penX D k hlt
      obtain ⟨pa', pc', hv', _, _, hcc⟩ := owns_slice (HM.out.pen HD.out)
      rw [hv] at hv'
      cases hv'
      obtain ⟨g, rfl⟩ := hga.resolve_left (by omega)
      have d1 := (hcc g 0 rfl).2.1 _ _ c1
      have d2 := (hcc g 0 rfl).2.1 _ _ c2
      clear hcc c1 c2
      have HP : Hid (p ∈ D.pen ∧ D.f k = p.b ∧ D.X k = p.x) := ⟨hp, hfk, hxk⟩
      have hpb := (HD.out.penb p hp).1
      clear hp hfk hxk hga
      have HA : Hid (Below wr.heap.size wr (wr.alloc (.cells #[.int .i64 p.b, .slice (some ⟨p.g, 0, none⟩) 512 p.cap] 180))) := (Below.refl _ _).alloc (Nat.le_refl _) _
      have hrow := heap_alloc_new wr (.cells #[.int .i64 p.b, .slice (some ⟨p.g, 0, none⟩) 512 p.cap] 180)
      have HS : Hid (∀ j, (wr.alloc (.cells #[.int .i64 p.b, .slice (some ⟨p.g, 0, none⟩) 512 p.cap] 180)).cell? ⟨wr.heap.size, j, none⟩ = (#[Value.int .i64 p.b, .slice (some ⟨p.g, 0, none⟩) 512 p.cap])[j]?) := fun j => cell_of_row _ _ _ _ _ _ hrow
      clear hrow
      by_cases hkp : kpOf keep k = true
      · have HK1 : Hid (kpOf keep k = true) := hkp
        clear hkp
        go_wp2_with (go_at_call 87; refine (keep_any _ c v keep k (HK.out _ (HM.out.on HA.out).has).1 (HK.out _ (HM.out.on HA.out).has).2 hkl).mono ?_; rintro e w' ⟨rfl, rfl⟩; rw [HK1.out])
        generalize hwa : wr.alloc (.cells #[.int .i64 p.b, .slice (some ⟨p.g, 0, none⟩) 512 p.cap] 180) = wa at *
        have HMa : Hid (Mid w wa D (kpOf keep) k k) := HM.out.on HA.out
        have S0 : wa.cell? ⟨wr.heap.size, 0, none⟩ = some (.int .i64 p.b) := HS.out 0
        have S1 : wa.cell? ⟨wr.heap.size, 1, none⟩ = some (.slice (some ⟨p.g, 0, none⟩) 512 p.cap) := HS.out 1
        have HB : Hid (Below wa.heap.size wa wa.drew) := (Below.refl _ wa).drew
        have HQ : Hid (D.nb ≤ 16384 ∧ 512 * D.nb ≤ D.capL ∧ p.x.length = 512 ∧ 512 * p.b + 512 ≤ (lay (kpOf keep) D.f D.X D.las k).length) := ⟨HD.out.nb1, by have := HD.out.las.room; rw [HD.out.lasl] at this; exact this, (HD.out.penb p HP.out.1).2.1, by rw [lay_length, HD.out.lasl]; omega⟩
        have HL : Hid (¬ wr.heap.size = D.L) := by have := HD.out.las.lt; have := HM.out.fr.size; show ¬ _; omega
        have HR : Hid (wa.drew.cell? ⟨D.d, 0, none⟩ = some (.slice (some ⟨D.L, 0, none⟩) (512 * D.nb) D.capL)) := cell_of_row _ _ _ _ _ _ ((HMa.out.on HB.out).row HD.out)
        clear HS hwa D1 d1 d2 HM HA
        go_region_law (first
          | (refine step_copyB rfl (.tmp 27) (.tmp 29) rfl D.L D.capL (512 * p.b) 512 (D.capL - 512 * p.b) (lay (kpOf keep) D.f D.X D.las k) ⟨p.g, 0, none⟩ 512 p.cap p.x (by simp [Act.eval]) (by simp [Act.eval]) (HMa.out.las.on HB.out) ((HMa.out.item HD.out HP.out.1).bytes.on HB.out) HQ.out.2.2.1 (Nat.le_refl _) HQ.out.2.2.2 ?_; intro w3 ho hf; have HO : Hid (OwnB w3 D.L D.capL (ov (lay (kpOf keep) D.f D.X D.las k) (512 * p.b) 512 (nth p.x))) := ho; have HM3 : Hid (Mid w w3 D (kpOf keep) (k + 1) k) := HMa.out.laid HK1.out HP.out.2.1 HP.out.2.2 HB.out ho hf HD.out; have T0 : w3.cell? ⟨wr.heap.size, 0, none⟩ = some (.int .i64 p.b) := hf.cell (by rw [HB.out.cell (p := ⟨wr.heap.size, 0, none⟩) (block_lt_of_cell S0)]; exact S0) HL.out; have T1 := (HM3.out.facts HD.out p.b hpb).1; obtain ⟨u, T2⟩ := (HM3.out.facts HD.out p.b hpb).2.1; have T3 := (HM3.out.facts HD.out p.b hpb).2.2; clear ho hf)
          | (go_simp; go_at_call 128; refine (dblock_min _ D.d D.L D.nb D.capL HR.out HQ.out.1 HQ.out.2.1 p.b hpb).mono ?_; rintro e w' ⟨rfl, rfl⟩))
        all_goals
          clear S0 S1
          go_wp2
          go_region
          all_goals
            go_wp2
            refine ⟨⟨_, hlt, rfl, ?_⟩, by simp [intOf]; omega⟩
            first
              | exact (HM3.out.on ((Below.refl _ w3).drew)).zeroed HP.out.2.1 HD.out
              | exact (HM3.out.zeroed HP.out.2.1 HD.out).on ((Below.refl _ _).drew)
      · have HK1 : Hid (kpOf keep k = false) := Bool.eq_false_iff.2 hkp
        clear hkp
        go_wp2_with (go_at_call 87; refine (keep_any _ c v keep k (HK.out _ (HM.out.on HA.out).has).1 (HK.out _ (HM.out.on HA.out).has).2 hkl).mono ?_; rintro e w' ⟨rfl, rfl⟩; rw [HK1.out])
        generalize hwa : wr.alloc (.cells #[.int .i64 p.b, .slice (some ⟨p.g, 0, none⟩) 512 p.cap] 180) = wa at *
        have HM3 : Hid (Mid w wa D (kpOf keep) (k + 1) k) := (HM.out.on HA.out).left HK1.out
        have T0 : wa.cell? ⟨wr.heap.size, 0, none⟩ = some (.int .i64 p.b) := HS.out 0
        have T1 := (HM3.out.facts HD.out p.b hpb).1
        obtain ⟨u, T2⟩ := (HM3.out.facts HD.out p.b hpb).2.1
        have T3 := (HM3.out.facts HD.out p.b hpb).2.2
        clear HS hwa D1 d1 d2 HM HA
        go_region
        all_goals
          go_wp2
          refine ⟨⟨_, hlt, rfl, ?_⟩, by simp [intOf]; omega⟩
          first
            | exact (HM3.out.on ((Below.refl _ wa).drew)).zeroed HP.out.2.1 HD.out
            | exact (HM3.out.zeroed HP.out.2.1 HD.out).on ((Below.refl _ _).drew)
    · have F1 := frozen_of_row wr D.d 1 _ _ (HM.out.row HD.out)
      obtain rfl : k = D.pen.length := by omega
      go_wp2
      go_end0
      exact ⟨rfl, settled_disk HD.out HM.out _ (by rw [hv]; rfl)⟩
end Go.Proofs.YtflienghgobmoaaGreatDoor

namespace Go.Proofs.YtflienghgobmoaaGreatDoor
open Go.RowKit Rec

/-- the disk behind a power cut -/
def Dk.cut (D : Dk) (kp : Nat → Bool) : Dk := { D.settled kp with down := true }
/-- what was done to a disk -/
structure Mv (w : World) (D : Dk) (w' : World) (D' : Dk) : Prop where
  fr : Fr D.has w w'
  has : ∀ k, D'.has k → D.has k ∨ w.heap.size ≤ k
  d : D'.d = D.d
  nb : D'.nb = D.nb
theorem Mv.trans {w w' w'' : World} {D D' D'' : Dk} (x : Mv w D w' D') (y : Mv w' D' w'' D'') : Mv w D w'' D'' :=
  ⟨x.fr.trans y.fr x.has, fun k hk => (y.has k hk).elim (x.has k) (fun h => .inr (Nat.le_trans x.fr.size h)), y.d.trans x.d, y.nb.trans x.nb⟩
theorem Mv.refl (w : World) (D : Dk) : Mv w D w D := ⟨Fr.refl _ _, fun _ h => .inl h, rfl, rfl⟩
theorem Mv.below {w w' : World} {D D' : Dk} (x : Mv w D w' D') (B : Nat) (hB : B ≤ w.heap.size) (h : ∀ k, D.has k → B ≤ k) : Below B w w' ∧ ∀ k, D'.has k → B ≤ k :=
  ⟨x.fr.below B h hB, fun k hk => (x.has k hk).elim (h k) (fun h2 => Nat.le_trans hB h2)⟩
theorem mv_on (w w' : World) (D : Dk) (x : Below w.heap.size w w') : Mv w D w' D := ⟨below_fr x _, fun _ h => .inl h, rfl, rfl⟩
theorem settled_has (D : Dk) (kp : Nat → Bool) (k : Nat) : (D.settled kp).has k ↔ D.has k := by simp only [Dk.has, Dk.settled, pv0_block]
/-- a field of the disk's own changes: what does not lie elsewhere -/
theorem Disk.put1 {w : World} {D D' : Dk} (h : Disk w D) (j : Nat) (v : Value) (hv : D'.cells = D.cells.setIfInBounds j v)
    (e : D' = { D with wr := D'.wr, fl := D'.fl, at_ := D'.at_, down := D'.down }) (hd : D'.down = true → D'.pen = []) (h1 : D'.wr ≤ 3518437208800) (h2 : D'.fl ≤ 3518437208800) (h3 : D'.at_ ≤ 9223372036854775807) :
    Disk (w.setCell ⟨D.d, j, none⟩ v) D' ∧ Mv w D (w.setCell ⟨D.d, j, none⟩ v) D' := by
  have fs : Fr (fun i => i = D.d) w (w.setCell ⟨D.d, j, none⟩ v) := Fr.set
  have hfr : Fr D.has w (w.setCell ⟨D.d, j, none⟩ v) := fs.mono (fun _ e => .inl e)
  generalize D'.wr = x1 at *
  generalize D'.fl = x2 at *
  generalize D'.at_ = x3 at *
  generalize D'.down = x4 at *
  subst e
  refine ⟨?_, hfr, fun _ hk => .inl hk, rfl, rfl⟩
  exact {
    row := by rw [hv]; exact heap_setCell_same _ _ _ _ _ _ h.row
    las := h.las.fr fs (fun e => h.ap.dL e.symm)
    lasl := h.lasl
    nb0 := h.nb0
    nb1 := h.nb1
    nws := owns_fr h.nws fs (fun k hk e => by cases hk; exact h.ap.dn e.symm)
    pen := owns_fr h.pen fs (fun k hk => (h.ap.p k hk).1)
    penb := fun p hp => ⟨(h.penb p hp).1, (h.penb p hp).2.1, (h.penb p hp).2.2.1.fr hfr (h.penb p hp).2.2.2, (h.penb p hp).2.2.2⟩
    tap := owns_fr h.tap fs (fun k hk => (h.ap.t k hk).1)
    tapb := fun a ha => by
      rcases h.tapb a ha with ⟨h1, h2, h3, h4, g, cap, h5, h6, h7⟩ | h'
      · exact .inl ⟨h1, h2, h3, h4, g, cap, h5, h6.fr hfr h7, h7⟩
      · exact .inr h'
    kee := h.kee.fr hfr (fun _ => h.keb)
    keb := h.keb
    kel := fun k hk => Nat.lt_of_lt_of_le (h.kel k hk) hfr.size
    ap := ⟨h.ap.dL, h.ap.dn, h.ap.Ln, h.ap.p, h.ap.t⟩
    dn := hd
    pl := h.pl
    tl := h.tl
    wrs := h1
    fls := h2
    at1 := h3 }
theorem Disk.frozen {w : World} {D : Dk} (h : Disk w D) (j : Nat) : w.frozen? ⟨D.d, j, none⟩ = false := frozen_of_row _ _ _ _ _ h.row
set_option maxRecDepth 100000 in
set_option maxHeartbeats 800000 in
theorem crash_any (w : World) (D : Dk) (h : Disk w D) (v : Value) (keep : List Bool) (hkv : Bools w v keep) (hkn : keep ≠ [] → ∀ k, v.ownBlock = some k → ¬ D.has k) (hkl : keep.length ≤ 9223372036854775807) :
    Calls Tryz.prog 44 #[.pointer (some ⟨D.d, 0, none⟩), v] w fun e w' => e = .returned (.tuple #[]) ∧ Disk w' (D.cut (kpOf keep)) ∧ Mv w D w' (D.cut (kpOf keep)) := by
  have HA : Hid (Below w.heap.size w (w.alloc (.cells #[v] 50))) := (Below.refl _ _).alloc (Nat.le_refl _) _
  have HC : Hid ((w.alloc (.cells #[v] 50)).cell? ⟨w.heap.size, 0, none⟩ = some v) := cell_of_row _ _ _ _ _ _ (heap_alloc_new w _)
  have HD : Hid (Disk w D) := h
  have HN : Hid (¬ D.has w.heap.size) := fun e => absurd (h.hasLt e) (by omega)
  have HK : Hid (Bools (w.alloc (.cells #[v] 50)) v keep) := hkv.fr (below_fr HA.out (fun k => w.heap.size ≤ k)) (fun hl k hk => Nat.not_le.2 (hkv.lt hl hk))
  have HV : Hid (keep ≠ [] → ∀ k, v.ownBlock = some k → ¬ D.has k) := hkn
  obtain ⟨va, vc, rfl, _⟩ := hkv
  clear h hkn
  go_enter Tryz.func44, Tryz.ntmps44
  go_wp2_with (go_at_call 86; refine (settle_keep _ D (HD.out.on HA.out) _ _ keep HC.out HN.out HK.out HV.out hkl).mono ?_; rintro e w2 ⟨rfl, hd2, hf2⟩; have HD2 : Hid (Disk w2 (D.settled (kpOf keep))) := hd2; have HF2 : Hid (Fr D.has (w.alloc (.cells #[.slice va keep.length vc] 50)) w2) := hf2; have F2 : w2.frozen? ⟨D.d, 8, none⟩ = false := hd2.frozen 8; have C2 : w2.cell? ⟨D.d, 8, none⟩ = some (.bool D.down) := hd2.cell 8; clear hd2 hf2)
  go_end0
  have h8 := HD2.out.put1 (D' := D.cut (kpOf keep)) 8 (.bool true) rfl rfl (fun _ => rfl) HD2.out.wrs HD2.out.fls HD2.out.at1
  have m1 : Mv w D w2 (D.settled (kpOf keep)) := ⟨(below_fr HA.out D.has).trans HF2.out (fun _ h => .inl h), fun k hk => .inl ((settled_has D _ k).1 hk), rfl, rfl⟩
  exact ⟨rfl, h8.1, m1.trans h8.2⟩
/-- may the power go at this step? what is left then -/
def Dk.ticked (D : Dk) : Dk := if 0 < D.at_ then { D with at_ := D.at_ - 1 } else D
def Dk.goes (D : Dk) : Bool := decide (D.at_ = 1)
set_option maxRecDepth 100000 in
set_option maxHeartbeats 800000 in
theorem step_goes (w : World) (D : Dk) (h : Disk w D) (f : Value) (hg : D.at_ = 1) (hkl : D.keep.length ≤ 9223372036854775807) :
    Calls Tryz.prog 185 #[.pointer (some ⟨D.d, 0, none⟩), f] w fun e w' => e = .returned (.int .i64 30) ∧ Disk w' (({ D with at_ := 0 } : Dk).cut (kpOf D.keep)) ∧ Mv w D w' (({ D with at_ := 0 } : Dk).cut (kpOf D.keep)) := by
  have C6 : w.cell? ⟨D.d, 6, none⟩ = some (.int .i64 1) := by rw [← hg]; exact h.cell 6
  have F6 := h.frozen 6
  obtain ⟨h8, m8⟩ := h.put1 (D' := { D with at_ := 0 }) 6 (.int .i64 0) rfl rfl h.dn h.wrs h.fls (by show (0 : Int) ≤ _; omega)
  have HD : Hid (Disk (w.setCell ⟨D.d, 6, none⟩ (.int .i64 0)) { D with at_ := 0 }) := h8
  have HM : Hid (Mv w D (w.setCell ⟨D.d, 6, none⟩ (.int .i64 0)) { D with at_ := 0 }) := m8
  have C7 : (w.setCell ⟨D.d, 6, none⟩ (.int .i64 0)).cell? ⟨D.d, 7, none⟩ = some D.kv := h8.cell 7
  clear h h8 m8
  go_enter Tryz.func185, Tryz.ntmps185
  go_wp2_with (go_at_call 44; refine (crash_any _ { D with at_ := 0 } HD.out _ D.keep HD.out.kee (fun _ => HD.out.keb) hkl).mono ?_; rintro e w2 ⟨rfl, hd2, hm2⟩; have HD2 : Hid (Disk w2 (({ D with at_ := 0 } : Dk).cut (kpOf D.keep)) ∧ Mv w D w2 (({ D with at_ := 0 } : Dk).cut (kpOf D.keep))) := ⟨hd2, HM.out.trans hm2⟩; clear hd2 hm2)
  go_ret
  exact ⟨rfl, HD2.out⟩
end Go.Proofs.YtflienghgobmoaaGreatDoor

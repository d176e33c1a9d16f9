import Derived.Test.YtcjfgffkkjekoaaKAMath
import Derived.Deep.DeepCutAuto
import Derived.Deep.RegionLaw
namespace Go.Proofs.Ytcjfgffkkjekoaa
open Go.RowKit Rec

theorem sizeU8 : (Try.prog.info? 5).map (·.size) = some 1 := by kernel_rfl
theorem copyB_run {w : World} {g cap off dLen dCap : Nat} {l : List Int} (ty : TypeId) (ad : Addr) (sLen sCap : Nat) (m : List Int) (hO : OwnB w g cap l) (hb : Bytes w (some ad) m) (hm : m.length = sLen) (hle : sLen ≤ dLen) (hfit : off + sLen ≤ l.length) :
    ∃ w', (Builtin.copy_ #[22, 22] ty #[.slice (some ⟨g, off, none⟩) dLen dCap, .slice (some ad) sLen sCap]).run Try.prog w = .ok (.int .i64 sLen) w' ∧ OwnB w' g cap (ov l off sLen (nth m)) ∧ Fr (fun k => k = g) w w' := by
  obtain ⟨cur, h1, h2, h3⟩ := hO.row
  have hr := hO.room
  have hlen : (m.map (Value.int .u8)).length = Nat.min sLen dLen := by
    rw [List.length_map, hm]; exact (Nat.min_eq_left hle).symm
  have hrun := run_copy_row (P := Try.prog) w 22 22 ty 5 g off dLen dCap ad sLen sCap cur 5 (m.map (Value.int .u8)) Try.underlying22 sizeU8 h1 hlen hb.news (by rw [List.length_map, hm]; omega) (cells_u8 m)
  refine ⟨_, by rw [hrun, List.length_map, hm]; rfl, ⟨⟨_, setRow_heap w g _ _ _ _ h1, ?_, ?_⟩, by rw [ov_length]; exact hO.len, by rw [ov_length]; exact hr, hO.top, fun i => wf_ov _ _ _ _ hO.wf (fun j _ => hb.wf j) i⟩, ⟨rfl, rfl, rfl, by simp [World.setRow], fun k _ hk => setRow_other w g k _ hk⟩⟩
  · rw [← Array.length_toList] at h2
    simp only [List.size_toArray, List.length_append, List.length_take, List.length_drop, List.length_map]; omega
  · rw [← Array.length_toList] at h2
    have hcut : cur.toList = l.map (Value.int .u8) ++ cur.toList.drop l.length := by rw [← h3, List.take_append_drop]
    rw [ov_length]
    show List.take l.length (cur.toList.take off ++ m.map (Value.int .u8) ++ cur.toList.drop (off + sLen)) = _
    apply List.ext_getElem?
    intro i
    by_cases hi : i < l.length
    · rw [List.getElem?_take_of_lt hi, nth_cellL _ _ (by rw [ov_length]; exact hi), nth_ov _ _ _ _ _ hi]
      have hci : cur.toList[i]? = some (.int .u8 (nth l i)) := by
        rw [← nth_cellL l i hi, ← h3, List.getElem?_take_of_lt hi]
      by_cases h4 : i < off
      · rw [if_neg (by omega), List.append_assoc, List.getElem?_append_left (by rw [List.length_take]; omega), List.getElem?_take_of_lt h4]; exact hci
      · by_cases h5 : i < off + sLen
        · rw [if_pos (by omega), List.getElem?_append_left (by rw [List.length_append, List.length_take, List.length_map]; omega), List.getElem?_append_right (by rw [List.length_take]; omega), List.length_take, show i - min off cur.toList.length = i - off by omega, nth_cellL _ _ (by omega)]
        · rw [if_neg (by omega), List.getElem?_append_right (by rw [List.length_append, List.length_take, List.length_map]; omega), List.getElem?_drop, List.length_append, List.length_take, List.length_map, show off + sLen + (i - (min off cur.toList.length + m.length)) = i by omega]; exact hci
    · rw [List.getElem?_eq_none (by rw [List.length_take]; omega), List.getElem?_eq_none (by rw [List.length_map, ov_length]; omega)]
/-- is it among what is kept? -/
def kpOf (keep : List Bool) (k : Nat) : Bool := keep.getD k false
set_option maxRecDepth 100000 in
set_option maxHeartbeats 800000 in
theorem all_any (w : World) (k : Int) : Calls Try.prog 30 #[.int .i64 k] w fun e w' => e = .returned (.bool true) ∧ w = w' := by
  go_enter Try.func30, Try.ntmps30
  go_wp2
  go_ret
  exact ⟨rfl, rfl⟩
set_option maxRecDepth 100000 in
set_option maxHeartbeats 800000 in
theorem keep_any (w : World) (c : Nat) (v : Value) (keep : List Bool) (k : Nat) (hc : w.cell? ⟨c, 0, none⟩ = some v) (hv : Bools w v keep) (hl : keep.length ≤ 9223372036854775807) : Calls Try.prog 25 #[.int .i64 k, .pointer (some ⟨c, 0, none⟩)] w fun e w' => e = .returned (.bool (kpOf keep k)) ∧ w = w' := by
  obtain ⟨a, cp, rfl, hb⟩ := hv
  unfold kpOf
  by_cases h : k < keep.length
  · rcases hb with rfl | ⟨b, off, rfl, hbc⟩
    · simp at h
    · have e : keep.getD k false = keep[k] := by simp [List.getD, h]
      have d := hbc k keep[k] (by simp [h])
      rw [e]
      generalize keep[k] = x at *
      clear hbc e
      go_enter Try.func25, Try.ntmps25
      go_wp2
      go_ret
      exact ⟨rfl, rfl⟩
  · have e : keep.getD k false = false := by simp [List.getD, Nat.le_of_not_lt h]
    rw [e]
    clear hb e
    go_enter Try.func25, Try.ntmps25
    go_wp2
    go_ret
    exact ⟨rfl, rfl⟩
/-- copy, as a step of a region that draws -/
theorem step_copyB {ops : Array Oper} {o : Oper} {a : Act} {w : World} {K : Act → World → Prop} {Q : Exit → Act → World → Prop} {E : Prop} (hgd : o.guard = none) (d s : Operand)
    (ho : o.op = .call { callee := .builtin .copy, args := #[d, s], argTypes := #[22, 22] }) (g cap off dLen dCap : Nat) (l : List Int) (ad : Addr) (sLen sCap : Nat) (m : List Int)
    (hd : a.eval d = .slice (some ⟨g, off, none⟩) dLen dCap) (hs : a.eval s = .slice (some ad) sLen sCap) (hO : OwnB w g cap l) (hb : Bytes w (some ad) m) (hm : m.length = sLen) (hle : sLen ≤ dLen) (hfit : off + sLen ≤ l.length)
    (h : ∀ w', OwnB w' g cap (ov l off sLen (nth m)) → Fr (fun k => k = g) w w' → K (a.put o.dst (.int .i64 sLen)) w') :
    if Region.wanted o (yielded ops a.tmps) = true then Oper.wp Try.prog o a w K Q else E := by
  have hw : Region.wanted o (yielded ops a.tmps) = true := by simp [Region.wanted, hgd]
  rw [if_pos hw]
  obtain ⟨w', hrun, h1, h2⟩ := copyB_run (dCap := dCap) o.type ad sLen sCap m hO hb hm hle hfit
  unfold Oper.wp
  simp only [execOp, ho, resolve, invoke, builtin, Sem.run_bind, Sem.run_pure, Result.andThen_ok, List.map_toArray, List.map_cons, List.map_nil, hd, hs, hrun]
  exact h w' h1 h2
end Go.Proofs.Ytcjfgffkkjekoaa

namespace Go.Proofs.Ytcjfgffkkjekoaa
open Go.RowKit Rec

/-- a row, empty again -/
def pv0 : Value → Value
  | .slice a _ c => .slice a 0 c
  | v => v
theorem pv0_block (v : Value) : (pv0 v).ownBlock = v.ownBlock := by
  cases v <;> first | rfl | (rename_i a _ _; cases a <;> rfl)
/-- the disk behind a settling -/
def Dk.settled (D : Dk) (kp : Nat → Bool) : Dk := { D with las := lay kp D.f D.X D.las D.pen.length, pv := pv0 D.pv, pen := [] }
/-- within the settling -/
structure Mid (w wr : World) (D : Dk) (kp : Nat → Bool) (j k : Nat) : Prop where
  las : OwnB wr D.L D.capL (lay kp D.f D.X D.las j)
  nws : wr.ownsRow 0 3 1 (.slice (some ⟨D.nw, 0, none⟩) D.nb D.capN) D.nb ((nz D.f (newest D.f D.nb D.pen.length) k).map (Value.int .i64))
  fr : Fr (fun j => j = D.L ∨ j = D.nw) w wr
theorem Mid.start {w : World} {D : Dk} (h : Disk w D) (kp : Nat → Bool) : Mid w w D kp 0 0 := ⟨h.las, h.nws, Fr.refl _ _⟩
theorem Mid.has {w wr : World} {D : Dk} {kp : Nat → Bool} {j k : Nat} (m : Mid w wr D kp j k) : Fr D.has w wr := m.fr.mono (fun _ hj => hj.elim (fun e => .inr (.inl e)) (fun e => .inr (.inr (.inl e))))
theorem Mid.row {w wr : World} {D : Dk} {kp : Nat → Bool} {j k : Nat} (m : Mid w wr D kp j k) (h : Disk w D) : wr.heap[D.d]? = some (.cells D.cells 55 (0, 0)) :=
  m.fr.heap h.row (fun e => e.elim h.ap.dL h.ap.dn)
theorem Mid.pen {w wr : World} {D : Dk} {kp : Nat → Bool} {j k : Nat} (m : Mid w wr D kp j k) (h : Disk w D) : wr.ownsRow 0 69 2 D.pv D.pen.length (D.pen.flatMap It.cells) :=
  owns_fr h.pen m.fr (fun j hj e => by have := h.ap.p j hj; exact e.elim this.2.1 this.2.2.1)
theorem Mid.on {w wr wa : World} {D : Dk} {kp : Nat → Bool} {j k : Nat} (m : Mid w wr D kp j k) (x : Below wr.heap.size wr wa) : Mid w wa D kp j k :=
  ⟨m.las.on x, owns_fr m.nws (below_fr x (fun j => wr.heap.size ≤ j)) (fun j hj => by cases hj; exact Nat.not_le.2 (owns_block m.nws rfl)), m.fr.trans (below_fr x (fun j => wr.heap.size ≤ j)) (fun j hj => .inr (Nat.le_trans m.fr.size hj))⟩
theorem Mid.item {w wr : World} {D : Dk} {kp : Nat → Bool} {j k : Nat} (m : Mid w wr D kp j k) (h : Disk w D) {p : It} (hp : p ∈ D.pen) : OwnB wr p.g p.cap p.x :=
  (h.penb p hp).2.2.1.fr m.fr (fun e => (h.penb p hp).2.2.2 (e.elim (fun e => .inr (.inl e)) (fun e => .inr (.inr (.inl e)))))
theorem Mid.facts {w wr : World} {D : Dk} {kp : Nat → Bool} {j k : Nat} (m : Mid w wr D kp j k) (h : Disk w D) (b : Nat) (hb : b < D.nb) : wr.cell? ⟨D.d, 2, none⟩ = some (.slice (some ⟨D.nw, 0, none⟩) D.nb D.capN) ∧ (∃ u, wr.cell? ⟨D.nw, b, none⟩ = some (.int .i64 u)) ∧ wr.frozen? ⟨D.nw, b, none⟩ = false := by
  obtain ⟨a, c, hv, _, _, hc⟩ := owns_slice m.nws
  cases hv
  refine ⟨cell_of_row _ _ _ _ _ _ (m.row h), ⟨nth (nz D.f (newest D.f D.nb D.pen.length) k) b, (hc _ _ rfl).2.1 b _ ?_⟩, (hc _ _ rfl).2.2 b⟩
  have : b < (nz D.f (newest D.f D.nb D.pen.length) k).length := by rw [nz_length, newest_length]; exact hb
  simp [nth, List.getD, this]
theorem Mid.laid {w wa wx w3 : World} {D : Dk} {kp : Nat → Bool} {k : Nat} {p : It} (m : Mid w wa D kp k k) (hk : kp k = true) (hf : D.f k = p.b) (hX : D.X k = p.x) (hx : Below wa.heap.size wa wx) (ho : OwnB w3 D.L D.capL (ov (lay kp D.f D.X D.las k) (512 * p.b) 512 (nth p.x))) (f3 : Fr (fun k => k = D.L) wx w3) (h : Disk w D) : Mid w w3 D kp (k + 1) k := by
  have mx := m.on hx
  refine ⟨?_, owns_fr mx.nws f3 (fun j hj e => by cases hj; exact h.ap.Ln e.symm), mx.fr.trans f3 (fun j e => .inl (.inl e))⟩
  rw [lay, if_pos hk, hf, hX]; exact ho
theorem Mid.left {w wa : World} {D : Dk} {kp : Nat → Bool} {k : Nat} (m : Mid w wa D kp k k) (hk : kp k = false) : Mid w wa D kp (k + 1) k := by
  refine ⟨?_, m.nws, m.fr⟩
  rw [lay, if_neg (by rw [hk]; decide)]; exact m.las
theorem Mid.zeroed {w wa : World} {D : Dk} {kp : Nat → Bool} {j k : Nat} {b : Nat} (m : Mid w wa D kp j k) (hf : D.f k = b) (h : Disk w D) : Mid w (wa.setCell ⟨D.nw, b, none⟩ (.int .i64 0)) D kp j (k + 1) := by
  refine ⟨m.las.fr Fr.set (fun e => h.ap.Ln e), ?_, m.fr.trans Fr.set (fun j e => .inl (.inr e))⟩
  have := owns_set m.nws b (.int .i64 0)
  rw [← List.map_set, ← hf] at this
  rw [nz, ← hf]; exact this
/-- at the end -/
theorem settled_disk {w wr : World} {D : Dk} {kp : Nat → Bool} (h : Disk w D) (m : Mid w wr D kp D.pen.length D.pen.length) (w' : World) (hw' : w' = wr.setCell ⟨D.d, 1, none⟩ (pv0 D.pv)) : Disk w' (D.settled kp) ∧ Fr D.has w w' := by
  subst hw'
  have fs : Fr (fun i => i = D.d) wr (wr.setCell ⟨D.d, 1, none⟩ (pv0 D.pv)) := Fr.set
  have hfr : Fr D.has w (wr.setCell ⟨D.d, 1, none⟩ (pv0 D.pv)) := m.has.trans fs (fun k e => .inl (.inl e))
  have hsame : ∀ k, (D.settled kp).has k ↔ D.has k := fun k => by
    simp only [Dk.has, Dk.settled, pv0_block]
  refine ⟨?_, hfr⟩
  exact {
    row := by
      exact heap_setCell_same _ _ _ _ _ _ (m.row h)
    las := m.las.fr fs (fun e => h.ap.dL e.symm)
    lasl := by show (lay _ _ _ _ _).length = _; rw [lay_length]; exact h.lasl
    nb0 := h.nb0
    nb1 := h.nb1
    nws := by
      have e : newest (D.settled kp).f D.nb 0 = List.replicate D.nb 0 := newest_zero _ _
      have e2 : nz D.f (newest D.f D.nb D.pen.length) D.pen.length = List.replicate D.nb 0 := nz_newest _ _ _ (fun j hj => by
        obtain ⟨p, _, hp, hf, _⟩ := penX D j hj
        rw [hf]; exact (h.penb p hp).1)
      have := owns_fr m.nws fs (fun k hk e => by cases hk; exact h.ap.dn e.symm)
      rw [e2, ← e] at this
      exact this
    pen := by
      refine ⟨rfl, ?_⟩
      rcases h.pen.2 with ⟨hv, _⟩ | ⟨g, cap, cur, hv, h1, hg, h2, h3, h4, h5⟩
      · exact .inl ⟨by show pv0 D.pv = _; rw [hv]; rfl, rfl⟩
      · refine .inr ⟨g, cap, cur, by show pv0 D.pv = _; rw [hv]; rfl, h1, ?_, Nat.zero_le _, h3, h4, by simp [Dk.settled]⟩
        have hn := h.ap.p g (by rw [hv]; rfl)
        exact fs.heap (m.fr.heap hg (fun e => e.elim hn.2.1 hn.2.2.1)) hn.1
    penb := fun p hp => by cases hp
    tap := owns_fr (owns_fr h.tap m.fr (fun j hj e => e.elim (h.ap.t j hj).2.1 (h.ap.t j hj).2.2.1)) fs (fun j hj => (h.ap.t j hj).1)
    tapb := fun a ha => by
      rcases h.tapb a ha with ⟨h1, h2, h3, h4, g, cap, h5, h6, h7⟩ | h'
      · exact .inl ⟨h1, h2, h3, h4, g, cap, h5, h6.fr hfr h7, fun e => h7 ((hsame g).1 e)⟩
      · exact .inr h'
    kee := h.kee.fr hfr (fun _ => h.keb)
    keb := fun k hk e => h.keb k hk ((hsame k).1 e)
    kel := fun k hk => Nat.lt_of_lt_of_le (h.kel k hk) hfr.size
    ap := ⟨h.ap.dL, h.ap.dn, h.ap.Ln, (fun k hk => h.ap.p k (by rw [← pv0_block]; exact hk)), (fun k hk => by
      have := h.ap.t k hk
      exact ⟨this.1, this.2.1, this.2.2.1, by show (pv0 D.pv).ownBlock ≠ _; rw [pv0_block]; exact this.2.2.2⟩)⟩
    dn := fun _ => rfl
    pl := by show 0 ≤ _; omega
    tl := h.tl
    wrs := h.wrs
    fls := h.fls
    at1 := h.at1 }
set_option maxRecDepth 100000 in
set_option maxHeartbeats 1600000 in
theorem settle_all (w : World) (D : Dk) (h : Disk w D) :
    Calls Try.prog 24 #[.pointer (some ⟨D.d, 0, none⟩), .func (.func 30) #[] #[]] w fun e w' => e = .returned (.tuple #[]) ∧ Disk w' (D.settled (fun _ => true)) ∧ Fr D.has w w' := by
  obtain ⟨pa, pc, hv, hpc, hga, hcc⟩ := owns_slice h.pen
  have C1 : w.cell? ⟨D.d, 1, none⟩ = some (.slice pa D.pen.length pc) := by rw [← hv]; exact h.cell 1
  have hpl := h.pl
  have HD : Hid (Disk w D) := h
  clear h hcc
  go_enter Try.func24, Try.ntmps24
  go_wp2
  go_loopw [4, 5, 11, 12, 13, 14, 15, 16, 17, 18, 19, 20, 21, 22, 23, 24, 25, 26, 27, 28, 29, 30, 31, 32, 33, 34, 35, 36, 37, 38] (fun _ _ i _ _ _ _ _ _ _ _ _ _ _ _ _ _ _ _ _ _ _ _ _ _ _ _ _ _ _ wr => ∃ k : Nat, k ≤ D.pen.length ∧ i = .int .i64 k ∧ Mid w wr D (fun _ => true) k k) (fun _ _ i _ _ _ _ _ _ _ _ _ _ _ _ _ _ _ _ _ _ _ _ _ _ _ _ _ _ _ _ => D.pen.length - (intOf i).toNat)
  case atStart => exact ⟨0, Nat.zero_le _, rfl, Mid.start HD.out _⟩
  case round =>
    obtain ⟨k, hk, rfl, hm⟩ := hrel
    have HM : Hid (Mid w wr D (fun _ => true) k k) := hm
    have D1 : wr.cell? ⟨D.d, 1, none⟩ = some (.slice pa D.pen.length pc) := by rw [← hv]; exact cell_of_row _ _ _ _ _ _ (hm.row HD.out)
    clear hm C1
    by_cases hlt : k < D.pen.length
    · obtain ⟨p, _, hp, hfk, hxk, c1, c2⟩ := penX D k hlt
      obtain ⟨pa', pc', hv', _, _, hcc⟩ := owns_slice (HM.out.pen HD.out)
      rw [hv] at hv'
      cases hv'
      obtain ⟨g, rfl⟩ := hga.resolve_left (by omega)
      have d1 := (hcc g 0 rfl).2.1 _ _ c1
      have d2 := (hcc g 0 rfl).2.1 _ _ c2
      clear hcc c1 c2
      have HP : Hid (p ∈ D.pen ∧ D.f k = p.b ∧ D.X k = p.x) := ⟨hp, hfk, hxk⟩
      have hpb := (HD.out.penb p hp).1
      clear hp hfk hxk hga
      have HA : Hid (Below wr.heap.size wr (wr.alloc (.cells #[.int .i64 p.b, .slice (some ⟨p.g, 0, none⟩) 512 p.cap] 69))) := (Below.refl _ _).alloc (Nat.le_refl _) _
      have hrow := heap_alloc_new wr (.cells #[.int .i64 p.b, .slice (some ⟨p.g, 0, none⟩) 512 p.cap] 69)
      have HS : Hid (∀ j, (wr.alloc (.cells #[.int .i64 p.b, .slice (some ⟨p.g, 0, none⟩) 512 p.cap] 69)).cell? ⟨wr.heap.size, j, none⟩ = (#[Value.int .i64 p.b, .slice (some ⟨p.g, 0, none⟩) 512 p.cap])[j]?) := fun j => cell_of_row _ _ _ _ _ _ hrow
      clear hrow
      go_wp2_with (go_at_call 30; refine (all_any _ _).mono ?_; rintro e w' ⟨rfl, rfl⟩)
      generalize hwa : wr.alloc (.cells #[.int .i64 p.b, .slice (some ⟨p.g, 0, none⟩) 512 p.cap] 69) = wa at *
      have HMa : Hid (Mid w wa D (fun _ => true) k k) := HM.out.on HA.out
      have S0 : wa.cell? ⟨wr.heap.size, 0, none⟩ = some (.int .i64 p.b) := HS.out 0
      have S1 : wa.cell? ⟨wr.heap.size, 1, none⟩ = some (.slice (some ⟨p.g, 0, none⟩) 512 p.cap) := HS.out 1
      have HB : Hid (Below wa.heap.size wa wa.drew) := (Below.refl _ wa).drew
      have HQ : Hid (D.nb ≤ 16384 ∧ 512 * D.nb ≤ D.capL ∧ p.x.length = 512 ∧ 512 * p.b + 512 ≤ (lay (fun _ => true) D.f D.X D.las k).length) := ⟨HD.out.nb1, by have := HD.out.las.room; rw [HD.out.lasl] at this; exact this, (HD.out.penb p HP.out.1).2.1, by rw [lay_length, HD.out.lasl]; omega⟩
      have HL : Hid (¬ wr.heap.size = D.L) := by have := HD.out.las.lt; have := HM.out.fr.size; show ¬ _; omega
      have HR : Hid (wa.drew.cell? ⟨D.d, 0, none⟩ = some (.slice (some ⟨D.L, 0, none⟩) (512 * D.nb) D.capL)) := cell_of_row _ _ _ _ _ _ ((HMa.out.on HB.out).row HD.out)
      clear HS hwa D1 d1 d2 HM HA
      go_region_law (first
        | (refine step_copyB rfl (.tmp 27) (.tmp 29) rfl D.L D.capL (512 * p.b) 512 (D.capL - 512 * p.b) (lay (fun _ => true) D.f D.X D.las k) ⟨p.g, 0, none⟩ 512 p.cap p.x (by simp [Act.eval]) (by simp [Act.eval]) (HMa.out.las.on HB.out) ((HMa.out.item HD.out HP.out.1).bytes.on HB.out) HQ.out.2.2.1 (Nat.le_refl _) HQ.out.2.2.2 ?_; intro w3 ho hf; have HO : Hid (OwnB w3 D.L D.capL (ov (lay (fun _ => true) D.f D.X D.las k) (512 * p.b) 512 (nth p.x))) := ho; have HM3 : Hid (Mid w w3 D (fun _ => true) (k + 1) k) := HMa.out.laid rfl HP.out.2.1 HP.out.2.2 HB.out ho hf HD.out; have T0 : w3.cell? ⟨wr.heap.size, 0, none⟩ = some (.int .i64 p.b) := hf.cell (by rw [HB.out.cell (p := ⟨wr.heap.size, 0, none⟩) (block_lt_of_cell S0)]; exact S0) HL.out; have T1 := (HM3.out.facts HD.out p.b hpb).1; obtain ⟨u, T2⟩ := (HM3.out.facts HD.out p.b hpb).2.1; have T3 := (HM3.out.facts HD.out p.b hpb).2.2; clear ho hf)
        | (go_simp; go_at_call 31; refine (dblock_min _ D.d D.L D.nb D.capL HR.out HQ.out.1 HQ.out.2.1 p.b hpb).mono ?_; rintro e w' ⟨rfl, rfl⟩))
      all_goals
        clear S0 S1
        go_wp2
        go_region
        all_goals
          go_wp2
          refine ⟨⟨_, hlt, rfl, ?_⟩, by simp [intOf]; omega⟩
          first
            | exact (HM3.out.on ((Below.refl _ w3).drew)).zeroed HP.out.2.1 HD.out
            | exact (HM3.out.zeroed HP.out.2.1 HD.out).on ((Below.refl _ _).drew)
    · have F1 := frozen_of_row wr D.d 1 _ _ (HM.out.row HD.out)
      obtain rfl : k = D.pen.length := by omega
      go_wp2
      go_end0
      exact ⟨rfl, settled_disk HD.out HM.out _ (by rw [hv]; rfl)⟩
end Go.Proofs.Ytcjfgffkkjekoaa

namespace Go.Proofs.Ytcjfgffkkjekoaa
open Go.RowKit Rec

set_option maxRecDepth 100000 in
set_option maxHeartbeats 1600000 in
theorem settle_keep (w : World) (D : Dk) (h : Disk w D) (c : Nat) (v : Value) (keep : List Bool) (hc : w.cell? ⟨c, 0, none⟩ = some v) (hcn : ¬ D.has c) (hkv : Bools w v keep) (hkn : keep ≠ [] → ∀ k, v.ownBlock = some k → ¬ D.has k) (hkl : keep.length ≤ 9223372036854775807) :
    Calls Try.prog 24 #[.pointer (some ⟨D.d, 0, none⟩), .func (.func 25) #[] #[.pointer (some ⟨c, 0, none⟩)]] w fun e w' => e = .returned (.tuple #[]) ∧ Disk w' (D.settled (kpOf keep)) ∧ Fr D.has w w' := by
  obtain ⟨pa, pc, hv, hpc, hga, hcc⟩ := owns_slice h.pen
  have C1 : w.cell? ⟨D.d, 1, none⟩ = some (.slice pa D.pen.length pc) := by rw [← hv]; exact h.cell 1
  have hpl := h.pl
  have HD : Hid (Disk w D) := h
  have HK : Hid (∀ wx, Fr D.has w wx → wx.cell? ⟨c, 0, none⟩ = some v ∧ Bools wx v keep) := fun wx x => ⟨x.cell hc hcn, hkv.fr x hkn⟩
  clear h hcc hc hkv hkn
  go_enter Try.func24, Try.ntmps24
  go_wp2
  go_loopw [4, 5, 11, 12, 13, 14, 15, 16, 17, 18, 19, 20, 21, 22, 23, 24, 25, 26, 27, 28, 29, 30, 31, 32, 33, 34, 35, 36, 37, 38] (fun _ _ i _ _ _ _ _ _ _ _ _ _ _ _ _ _ _ _ _ _ _ _ _ _ _ _ _ _ _ wr => ∃ k : Nat, k ≤ D.pen.length ∧ i = .int .i64 k ∧ Mid w wr D (kpOf keep) k k) (fun _ _ i _ _ _ _ _ _ _ _ _ _ _ _ _ _ _ _ _ _ _ _ _ _ _ _ _ _ _ _ => D.pen.length - (intOf i).toNat)
  case atStart => exact ⟨0, Nat.zero_le _, rfl, Mid.start HD.out _⟩
  case round =>
    obtain ⟨k, hk, rfl, hm⟩ := hrel
    have HM : Hid (Mid w wr D (kpOf keep) k k) := hm
    have D1 : wr.cell? ⟨D.d, 1, none⟩ = some (.slice pa D.pen.length pc) := by rw [← hv]; exact cell_of_row _ _ _ _ _ _ (hm.row HD.out)
    clear hm C1
    by_cases hlt : k < D.pen.length
    · obtain ⟨p, _, hp, hfk, hxk, c1, c2⟩ := penX D k hlt
      obtain ⟨pa', pc', hv', _, _, hcc⟩ := owns_slice (HM.out.pen HD.out)
      rw [hv] at hv'
      cases hv'
      obtain ⟨g, rfl⟩ := hga.resolve_left (by omega)
      have d1 := (hcc g 0 rfl).2.1 _ _ c1
      have d2 := (hcc g 0 rfl).2.1 _ _ c2
      clear hcc c1 c2
      have HP : Hid (p ∈ D.pen ∧ D.f k = p.b ∧ D.X k = p.x) := ⟨hp, hfk, hxk⟩
      have hpb := (HD.out.penb p hp).1
      clear hp hfk hxk hga
      have HA : Hid (Below wr.heap.size wr (wr.alloc (.cells #[.int .i64 p.b, .slice (some ⟨p.g, 0, none⟩) 512 p.cap] 69))) := (Below.refl _ _).alloc (Nat.le_refl _) _
      have hrow := heap_alloc_new wr (.cells #[.int .i64 p.b, .slice (some ⟨p.g, 0, none⟩) 512 p.cap] 69)
      have HS : Hid (∀ j, (wr.alloc (.cells #[.int .i64 p.b, .slice (some ⟨p.g, 0, none⟩) 512 p.cap] 69)).cell? ⟨wr.heap.size, j, none⟩ = (#[Value.int .i64 p.b, .slice (some ⟨p.g, 0, none⟩) 512 p.cap])[j]?) := fun j => cell_of_row _ _ _ _ _ _ hrow
      clear hrow
      by_cases hkp : kpOf keep k = true
      · have HK1 : Hid (kpOf keep k = true) := hkp
        clear hkp
        go_wp2_with (go_at_call 25; refine (keep_any _ c v keep k (HK.out _ (HM.out.on HA.out).has).1 (HK.out _ (HM.out.on HA.out).has).2 hkl).mono ?_; rintro e w' ⟨rfl, rfl⟩; rw [HK1.out])
        generalize hwa : wr.alloc (.cells #[.int .i64 p.b, .slice (some ⟨p.g, 0, none⟩) 512 p.cap] 69) = wa at *
        have HMa : Hid (Mid w wa D (kpOf keep) k k) := HM.out.on HA.out
        have S0 : wa.cell? ⟨wr.heap.size, 0, none⟩ = some (.int .i64 p.b) := HS.out 0
        have S1 : wa.cell? ⟨wr.heap.size, 1, none⟩ = some (.slice (some ⟨p.g, 0, none⟩) 512 p.cap) := HS.out 1
        have HB : Hid (Below wa.heap.size wa wa.drew) := (Below.refl _ wa).drew
        have HQ : Hid (D.nb ≤ 16384 ∧ 512 * D.nb ≤ D.capL ∧ p.x.length = 512 ∧ 512 * p.b + 512 ≤ (lay (kpOf keep) D.f D.X D.las k).length) := ⟨HD.out.nb1, by have := HD.out.las.room; rw [HD.out.lasl] at this; exact this, (HD.out.penb p HP.out.1).2.1, by rw [lay_length, HD.out.lasl]; omega⟩
        have HL : Hid (¬ wr.heap.size = D.L) := by have := HD.out.las.lt; have := HM.out.fr.size; show ¬ _; omega
        have HR : Hid (wa.drew.cell? ⟨D.d, 0, none⟩ = some (.slice (some ⟨D.L, 0, none⟩) (512 * D.nb) D.capL)) := cell_of_row _ _ _ _ _ _ ((HMa.out.on HB.out).row HD.out)
        clear HS hwa D1 d1 d2 HM HA
        go_region_law (first
          | (refine step_copyB rfl (.tmp 27) (.tmp 29) rfl D.L D.capL (512 * p.b) 512 (D.capL - 512 * p.b) (lay (kpOf keep) D.f D.X D.las k) ⟨p.g, 0, none⟩ 512 p.cap p.x (by simp [Act.eval]) (by simp [Act.eval]) (HMa.out.las.on HB.out) ((HMa.out.item HD.out HP.out.1).bytes.on HB.out) HQ.out.2.2.1 (Nat.le_refl _) HQ.out.2.2.2 ?_; intro w3 ho hf; have HO : Hid (OwnB w3 D.L D.capL (ov (lay (kpOf keep) D.f D.X D.las k) (512 * p.b) 512 (nth p.x))) := ho; have HM3 : Hid (Mid w w3 D (kpOf keep) (k + 1) k) := HMa.out.laid HK1.out HP.out.2.1 HP.out.2.2 HB.out ho hf HD.out; have T0 : w3.cell? ⟨wr.heap.size, 0, none⟩ = some (.int .i64 p.b) := hf.cell (by rw [HB.out.cell (p := ⟨wr.heap.size, 0, none⟩) (block_lt_of_cell S0)]; exact S0) HL.out; have T1 := (HM3.out.facts HD.out p.b hpb).1; obtain ⟨u, T2⟩ := (HM3.out.facts HD.out p.b hpb).2.1; have T3 := (HM3.out.facts HD.out p.b hpb).2.2; clear ho hf)
          | (go_simp; go_at_call 31; refine (dblock_min _ D.d D.L D.nb D.capL HR.out HQ.out.1 HQ.out.2.1 p.b hpb).mono ?_; rintro e w' ⟨rfl, rfl⟩))
        all_goals
          clear S0 S1
          go_wp2
          go_region
          all_goals
            go_wp2
            refine ⟨⟨_, hlt, rfl, ?_⟩, by simp [intOf]; omega⟩
            first
              | exact (HM3.out.on ((Below.refl _ w3).drew)).zeroed HP.out.2.1 HD.out
              | exact (HM3.out.zeroed HP.out.2.1 HD.out).on ((Below.refl _ _).drew)
      · have HK1 : Hid (kpOf keep k = false) := Bool.eq_false_iff.2 hkp
        clear hkp
        go_wp2_with (go_at_call 25; refine (keep_any _ c v keep k (HK.out _ (HM.out.on HA.out).has).1 (HK.out _ (HM.out.on HA.out).has).2 hkl).mono ?_; rintro e w' ⟨rfl, rfl⟩; rw [HK1.out])
        generalize hwa : wr.alloc (.cells #[.int .i64 p.b, .slice (some ⟨p.g, 0, none⟩) 512 p.cap] 69) = wa at *
        have HM3 : Hid (Mid w wa D (kpOf keep) (k + 1) k) := (HM.out.on HA.out).left HK1.out
        have T0 : wa.cell? ⟨wr.heap.size, 0, none⟩ = some (.int .i64 p.b) := HS.out 0
        have T1 := (HM3.out.facts HD.out p.b hpb).1
        obtain ⟨u, T2⟩ := (HM3.out.facts HD.out p.b hpb).2.1
        have T3 := (HM3.out.facts HD.out p.b hpb).2.2
        clear HS hwa D1 d1 d2 HM HA
        go_region
        all_goals
          go_wp2
          refine ⟨⟨_, hlt, rfl, ?_⟩, by simp [intOf]; omega⟩
          first
            | exact (HM3.out.on ((Below.refl _ wa).drew)).zeroed HP.out.2.1 HD.out
            | exact (HM3.out.zeroed HP.out.2.1 HD.out).on ((Below.refl _ _).drew)
    · have F1 := frozen_of_row wr D.d 1 _ _ (HM.out.row HD.out)
      obtain rfl : k = D.pen.length := by omega
      go_wp2
      go_end0
      exact ⟨rfl, settled_disk HD.out HM.out _ (by rw [hv]; rfl)⟩
end Go.Proofs.Ytcjfgffkkjekoaa

namespace Go.Proofs.Ytcjfgffkkjekoaa
open Go.RowKit Rec

/-- the disk behind a power cut -/
def Dk.cut (D : Dk) (kp : Nat → Bool) : Dk := { D.settled kp with down := true }
/-- what was done to a disk -/
structure Mv (w : World) (D : Dk) (w' : World) (D' : Dk) : Prop where
  fr : Fr D.has w w'
  has : ∀ k, D'.has k → D.has k ∨ w.heap.size ≤ k
  d : D'.d = D.d
  nb : D'.nb = D.nb
theorem Mv.trans {w w' w'' : World} {D D' D'' : Dk} (x : Mv w D w' D') (y : Mv w' D' w'' D'') : Mv w D w'' D'' :=
  ⟨x.fr.trans y.fr x.has, fun k hk => (y.has k hk).elim (x.has k) (fun h => .inr (Nat.le_trans x.fr.size h)), y.d.trans x.d, y.nb.trans x.nb⟩
theorem Mv.refl (w : World) (D : Dk) : Mv w D w D := ⟨Fr.refl _ _, fun _ h => .inl h, rfl, rfl⟩
theorem Mv.below {w w' : World} {D D' : Dk} (x : Mv w D w' D') (B : Nat) (hB : B ≤ w.heap.size) (h : ∀ k, D.has k → B ≤ k) : Below B w w' ∧ ∀ k, D'.has k → B ≤ k :=
  ⟨x.fr.below B h hB, fun k hk => (x.has k hk).elim (h k) (fun h2 => Nat.le_trans hB h2)⟩
theorem mv_on (w w' : World) (D : Dk) (x : Below w.heap.size w w') : Mv w D w' D := ⟨below_fr x _, fun _ h => .inl h, rfl, rfl⟩
theorem settled_has (D : Dk) (kp : Nat → Bool) (k : Nat) : (D.settled kp).has k ↔ D.has k := by simp only [Dk.has, Dk.settled, pv0_block]
/-- a field of the disk's own changes: what does not lie elsewhere -/
theorem Disk.put1 {w : World} {D D' : Dk} (h : Disk w D) (j : Nat) (v : Value) (hv : D'.cells = D.cells.setIfInBounds j v)
    (e : D' = { D with wr := D'.wr, fl := D'.fl, at_ := D'.at_, down := D'.down }) (hd : D'.down = true → D'.pen = []) (h1 : D'.wr ≤ 3518437208800) (h2 : D'.fl ≤ 3518437208800) (h3 : D'.at_ ≤ 9223372036854775807) :
    Disk (w.setCell ⟨D.d, j, none⟩ v) D' ∧ Mv w D (w.setCell ⟨D.d, j, none⟩ v) D' := by
  have fs : Fr (fun i => i = D.d) w (w.setCell ⟨D.d, j, none⟩ v) := Fr.set
  have hfr : Fr D.has w (w.setCell ⟨D.d, j, none⟩ v) := fs.mono (fun _ e => .inl e)
  generalize D'.wr = x1 at *
  generalize D'.fl = x2 at *
  generalize D'.at_ = x3 at *
  generalize D'.down = x4 at *
  subst e
  refine ⟨?_, hfr, fun _ hk => .inl hk, rfl, rfl⟩
  exact {
    row := by rw [hv]; exact heap_setCell_same _ _ _ _ _ _ h.row
    las := h.las.fr fs (fun e => h.ap.dL e.symm)
    lasl := h.lasl
    nb0 := h.nb0
    nb1 := h.nb1
    nws := owns_fr h.nws fs (fun k hk e => by cases hk; exact h.ap.dn e.symm)
    pen := owns_fr h.pen fs (fun k hk => (h.ap.p k hk).1)
    penb := fun p hp => ⟨(h.penb p hp).1, (h.penb p hp).2.1, (h.penb p hp).2.2.1.fr hfr (h.penb p hp).2.2.2, (h.penb p hp).2.2.2⟩
    tap := owns_fr h.tap fs (fun k hk => (h.ap.t k hk).1)
    tapb := fun a ha => by
      rcases h.tapb a ha with ⟨h1, h2, h3, h4, g, cap, h5, h6, h7⟩ | h'
      · exact .inl ⟨h1, h2, h3, h4, g, cap, h5, h6.fr hfr h7, h7⟩
      · exact .inr h'
    kee := h.kee.fr hfr (fun _ => h.keb)
    keb := h.keb
    kel := fun k hk => Nat.lt_of_lt_of_le (h.kel k hk) hfr.size
    ap := ⟨h.ap.dL, h.ap.dn, h.ap.Ln, h.ap.p, h.ap.t⟩
    dn := hd
    pl := h.pl
    tl := h.tl
    wrs := h1
    fls := h2
    at1 := h3 }
theorem Disk.frozen {w : World} {D : Dk} (h : Disk w D) (j : Nat) : w.frozen? ⟨D.d, j, none⟩ = false := frozen_of_row _ _ _ _ _ h.row
set_option maxRecDepth 100000 in
set_option maxHeartbeats 800000 in
theorem crash_any (w : World) (D : Dk) (h : Disk w D) (v : Value) (keep : List Bool) (hkv : Bools w v keep) (hkn : keep ≠ [] → ∀ k, v.ownBlock = some k → ¬ D.has k) (hkl : keep.length ≤ 9223372036854775807) :
    Calls Try.prog 16 #[.pointer (some ⟨D.d, 0, none⟩), v] w fun e w' => e = .returned (.tuple #[]) ∧ Disk w' (D.cut (kpOf keep)) ∧ Mv w D w' (D.cut (kpOf keep)) := by
  have HA : Hid (Below w.heap.size w (w.alloc (.cells #[v] 24))) := (Below.refl _ _).alloc (Nat.le_refl _) _
  have HC : Hid ((w.alloc (.cells #[v] 24)).cell? ⟨w.heap.size, 0, none⟩ = some v) := cell_of_row _ _ _ _ _ _ (heap_alloc_new w _)
  have HD : Hid (Disk w D) := h
  have HN : Hid (¬ D.has w.heap.size) := fun e => absurd (h.hasLt e) (by omega)
  have HK : Hid (Bools (w.alloc (.cells #[v] 24)) v keep) := hkv.fr (below_fr HA.out (fun k => w.heap.size ≤ k)) (fun hl k hk => Nat.not_le.2 (hkv.lt hl hk))
  have HV : Hid (keep ≠ [] → ∀ k, v.ownBlock = some k → ¬ D.has k) := hkn
  obtain ⟨va, vc, rfl, _⟩ := hkv
  clear h hkn
  go_enter Try.func16, Try.ntmps16
  go_wp2_with (go_at_call 24; refine (settle_keep _ D (HD.out.on HA.out) _ _ keep HC.out HN.out HK.out HV.out hkl).mono ?_; rintro e w2 ⟨rfl, hd2, hf2⟩; have HD2 : Hid (Disk w2 (D.settled (kpOf keep))) := hd2; have HF2 : Hid (Fr D.has (w.alloc (.cells #[.slice va keep.length vc] 24)) w2) := hf2; have F2 : w2.frozen? ⟨D.d, 8, none⟩ = false := hd2.frozen 8; have C2 : w2.cell? ⟨D.d, 8, none⟩ = some (.bool D.down) := hd2.cell 8; clear hd2 hf2)
  go_end0
  have h8 := HD2.out.put1 (D' := D.cut (kpOf keep)) 8 (.bool true) rfl rfl (fun _ => rfl) HD2.out.wrs HD2.out.fls HD2.out.at1
  have m1 : Mv w D w2 (D.settled (kpOf keep)) := ⟨(below_fr HA.out D.has).trans HF2.out (fun _ h => .inl h), fun k hk => .inl ((settled_has D _ k).1 hk), rfl, rfl⟩
  exact ⟨rfl, h8.1, m1.trans h8.2⟩
/-- may the power go at this step? what is left then -/
def Dk.ticked (D : Dk) : Dk := if 0 < D.at_ then { D with at_ := D.at_ - 1 } else D
def Dk.goes (D : Dk) : Bool := decide (D.at_ = 1)
set_option maxRecDepth 100000 in
set_option maxHeartbeats 800000 in
theorem step_goes (w : World) (D : Dk) (h : Disk w D) (f : Value) (hg : D.at_ = 1) (hkl : D.keep.length ≤ 9223372036854775807) :
    Calls Try.prog 28 #[.pointer (some ⟨D.d, 0, none⟩), f] w fun e w' => e = .returned (.int .i64 30) ∧ Disk w' (({ D with at_ := 0 } : Dk).cut (kpOf D.keep)) ∧ Mv w D w' (({ D with at_ := 0 } : Dk).cut (kpOf D.keep)) := by
  have C6 : w.cell? ⟨D.d, 6, none⟩ = some (.int .i64 1) := by rw [← hg]; exact h.cell 6
  have F6 := h.frozen 6
  obtain ⟨h8, m8⟩ := h.put1 (D' := { D with at_ := 0 }) 6 (.int .i64 0) rfl rfl h.dn h.wrs h.fls (by show (0 : Int) ≤ _; omega)
  have HD : Hid (Disk (w.setCell ⟨D.d, 6, none⟩ (.int .i64 0)) { D with at_ := 0 }) := h8
  have HM : Hid (Mv w D (w.setCell ⟨D.d, 6, none⟩ (.int .i64 0)) { D with at_ := 0 }) := m8
  have C7 : (w.setCell ⟨D.d, 6, none⟩ (.int .i64 0)).cell? ⟨D.d, 7, none⟩ = some D.kv := h8.cell 7
  clear h h8 m8
  go_enter Try.func28, Try.ntmps28
  go_wp2_with (go_at_call 16; refine (crash_any _ { D with at_ := 0 } HD.out _ D.keep HD.out.kee (fun _ => HD.out.keb) hkl).mono ?_; rintro e w2 ⟨rfl, hd2, hm2⟩; have HD2 : Hid (Disk w2 (({ D with at_ := 0 } : Dk).cut (kpOf D.keep)) ∧ Mv w D w2 (({ D with at_ := 0 } : Dk).cut (kpOf D.keep))) := ⟨hd2, HM.out.trans hm2⟩; clear hd2 hm2)
  go_ret
  exact ⟨rfl, HD2.out⟩
end Go.Proofs.Ytcjfgffkkjekoaa

namespace Go.Proofs.Ytcjfgffkkjekoaa
open Go.RowKit Rec

/-- a disk that is put together anew -/
theorem Disk.anew {w w' : World} {D D' : Dk} (h : Disk w D) (hfr : Fr D.has w w') (hhas : ∀ k, D'.has k → D.has k ∨ w.heap.size ≤ k) (hd : D'.d = D.d) (hL : D'.L = D.L) (hcL : D'.capL = D.capL) (hnb : D'.nb = D.nb) (hkv : D'.kv = D.kv) (hke : D'.keep = D.keep) (hwr : D'.wr = D.wr) (hfl : D'.fl = D.fl) (hat : D'.at_ = D.at_) (hlas : D'.las = D.las)
    (row : w'.heap[D'.d]? = some (.cells D'.cells 55 (0, 0))) (las : OwnB w' D.L D.capL D.las)
    (nws : w'.ownsRow 0 3 1 (.slice (some ⟨D'.nw, 0, none⟩) D'.nb D'.capN) D'.nb ((newest D'.f D'.nb D'.pen.length).map (Value.int .i64)))
    (pen : w'.ownsRow 0 69 2 D'.pv D'.pen.length (D'.pen.flatMap It.cells))
    (penb : ∀ p ∈ D'.pen, p ∈ D.pen ∨ (p.b < D.nb ∧ p.x.length = 512 ∧ OwnB w' p.g p.cap p.x ∧ ¬ D'.has p.g))
    (tap : w'.ownsRow 0 36 3 D'.tv D'.tap.length (D'.tap.flatMap Ac.cells)) (tapb : ∀ a ∈ D'.tap, a ∈ D.tap ∨ AcOk w' D' a) (ap : Apart D') (dn : D'.down = true → D'.pen = []) (pl : D'.pen.length ≤ 3518437208800) (tl : D'.tap.length ≤ 3518437208800) : Disk w' D' ∧ Mv w D w' D' := by
  have hno : ∀ k, k < w.heap.size → ¬ D.has k → ¬ D'.has k := fun k hk hn e => (hhas k e).elim hn (fun h => by omega)
  refine ⟨?_, hfr, hhas, hd, hnb⟩
  exact {
    row := row
    las := by rw [hL, hcL, hlas]; exact las
    lasl := by rw [hlas, hnb]; exact h.lasl
    nb0 := by rw [hnb]; exact h.nb0
    nb1 := by rw [hnb]; exact h.nb1
    nws := nws
    pen := pen
    penb := fun p hp => by
      rcases penb p hp with h' | h'
      · obtain ⟨h1, h2, h3, h4⟩ := h.penb p h'
        exact ⟨by rw [hnb]; exact h1, h2, h3.fr hfr h4, hno _ h3.lt h4⟩
      · rw [hnb]; exact h'
    tap := tap
    tapb := fun a ha => by
      rcases tapb a ha with h' | h'
      · rcases h.tapb a h' with ⟨h1, h2, h3, h4, g, cap, h5, h6, h7⟩ | h'
        · exact .inl ⟨h1, h2, by rw [hnb]; exact h3, h4, g, cap, h5, h6.fr hfr h7, hno _ h6.lt h7⟩
        · exact .inr h'
      · exact h'
    kee := by rw [hkv, hke]; exact h.kee.fr hfr (fun _ => h.keb)
    keb := fun k hk => by rw [hkv] at hk; exact hno k (h.kel k hk) (h.keb k hk)
    kel := fun k hk => by rw [hkv] at hk; exact Nat.lt_of_lt_of_le (h.kel k hk) hfr.size
    ap := ap
    dn := dn
    pl := pl
    tl := tl
    wrs := by rw [hwr]; exact h.wrs
    fls := by rw [hfl]; exact h.fls
    at1 := by rw [hat]; exact h.at1 }
/-- an act more -/
def Dk.act (D : Dk) (gt capt : Nat) (a : Ac) : Dk := { D with tv := .slice (some ⟨gt, 0, none⟩) (D.tap.length + 1) capt, tap := D.tap ++ [a] }
theorem Disk.taped {w wb w1 : World} {D : Dk} {gt capt : Nat} {a : Ac} (h : Disk w D) (hb : Below w.heap.size w wb)
    (ha : (a.kind = 1 ∧ 0 ≤ a.b ∧ a.b < D.nb ∧ a.x.length = 512 ∧ ∃ g cap, a.v = .slice (some ⟨g, 0, none⟩) 512 cap ∧ OwnB w g cap a.x ∧ ¬ D.has g) ∨ (a.kind = 2 ∧ a.b = 0 ∧ a.v = .slice none 0 0 ∧ a.x = []))
    (ho : w1.ownsRow 0 36 3 (.slice (some ⟨gt, 0, none⟩) (D.tap.length + 1) capt) (D.tap.length + 1) (D.tap.flatMap Ac.cells ++ a.cells)) (hf : Fr (fun k => D.tv.ownBlock = some k) wb w1) (hg : D.tv.ownBlock = some gt ∨ wb.heap.size ≤ gt) (hl : D.tap.length + 1 ≤ 3518437208800) :
    Disk (w1.setCell ⟨D.d, 3, none⟩ (.slice (some ⟨gt, 0, none⟩) (D.tap.length + 1) capt)) (D.act gt capt a) ∧ Mv w D (w1.setCell ⟨D.d, 3, none⟩ (.slice (some ⟨gt, 0, none⟩) (D.tap.length + 1) capt)) (D.act gt capt a) := by
  have hbs := hb.size
  have fs : Fr (fun i => i = D.d) w1 (w1.setCell ⟨D.d, 3, none⟩ (.slice (some ⟨gt, 0, none⟩) (D.tap.length + 1) capt)) := Fr.set
  have f1 : Fr (fun k => D.tv.ownBlock = some k) w w1 := (below_fr hb _).trans hf (fun _ e => .inl e)
  have hfr : Fr D.has w (w1.setCell ⟨D.d, 3, none⟩ (.slice (some ⟨gt, 0, none⟩) (D.tap.length + 1) capt)) := (f1.mono (fun _ e => .inr (.inr (.inr (.inr e))))).trans fs (fun _ e => .inl (.inl e))
  have hg' : D.tv.ownBlock = some gt ∨ w.heap.size ≤ gt := hg.imp id (fun h => Nat.le_trans hbs h)
  have hhas : ∀ k, (D.act gt capt a).has k → D.has k ∨ w.heap.size ≤ k := fun k hk => by
    rcases hk with e | e | e | e | e
    · exact .inl (.inl e)
    · exact .inl (.inr (.inl e))
    · exact .inl (.inr (.inr (.inl e)))
    · exact .inl (.inr (.inr (.inr (.inl e))))
    · cases e
      exact hg'.elim (fun e => .inl (.inr (.inr (.inr (.inr e))))) .inr
  have hdg : gt ≠ D.d ∧ gt ≠ D.L ∧ gt ≠ D.nw ∧ D.pv.ownBlock ≠ some gt := by
    rcases hg' with e | e
    · exact h.ap.t gt e
    · refine ⟨fun x => ?_, fun x => ?_, fun x => ?_, fun x => ?_⟩
      · have := h.lt; omega
      · have := h.las.lt; omega
      · have : D.nw < w.heap.size := owns_block h.nws rfl; omega
      · have := owns_block h.pen x; omega
  refine h.anew hfr hhas rfl rfl rfl rfl rfl rfl rfl rfl rfl rfl ?_ ?_ ?_ ?_ (fun p hp => .inl hp) ?_ ?_ ?_ h.dn h.pl ?_
  · exact heap_setCell_same _ _ _ _ _ _ (f1.heap h.row (fun e => (h.ap.t _ e).1 rfl))
  · exact (h.las.fr f1 (fun e => (h.ap.t _ e).2.1 rfl)).fr fs (fun e => h.ap.dL e.symm)
  · exact owns_fr (owns_fr h.nws f1 (fun k hk e => by cases hk; exact (h.ap.t _ e).2.2.1 rfl)) fs (fun k hk e => by cases hk; exact h.ap.dn e.symm)
  · exact owns_fr (owns_fr h.pen f1 (fun k hk e => (h.ap.t _ e).2.2.2 hk)) fs (fun k hk => (h.ap.p k hk).1)
  · have := owns_fr ho fs (fun k hk => by cases hk; exact hdg.1)
    simp only [Dk.act, List.flatMap_append, List.flatMap_cons, List.flatMap_nil, List.append_nil, List.length_append, List.length_cons, List.length_nil]
    exact this
  · intro b hb
    rcases List.mem_append.1 hb with hb | hb
    · exact .inl hb
    · rw [List.mem_singleton] at hb
      subst hb
      right
      rcases ha with ⟨h1, h2, h3, h4, g, cap, h5, h6, h7⟩ | h'
      · exact .inl ⟨h1, h2, h3, h4, g, cap, h5, h6.fr hfr h7, fun e => (hhas g e).elim h7 (fun x => by have := h6.lt; omega)⟩
      · exact .inr h'
  · exact ⟨h.ap.dL, h.ap.dn, h.ap.Ln, (fun k hk => ⟨(h.ap.p k hk).1, (h.ap.p k hk).2.1, (h.ap.p k hk).2.2.1, fun e => by cases e; exact hdg.2.2.2 hk⟩), (fun k hk => by cases hk; exact hdg)⟩
  · simp only [Dk.act, List.length_append, List.length_cons, List.length_nil]; exact hl
/-- a write more -/
def Dk.pend (D : Dk) (gp capp : Nat) (p : It) : Dk := { D with pv := .slice (some ⟨gp, 0, none⟩) (D.pen.length + 1) capp, pen := D.pen ++ [p] }
theorem pend_f (D : Dk) (gp capp : Nat) (p : It) (k : Nat) (hk : k < D.pen.length) : (D.pend gp capp p).f k = D.f k := by
  simp [Dk.f, Dk.pend, List.getD, List.getElem?_append, hk]
theorem pend_f1 (D : Dk) (gp capp : Nat) (p : It) : (D.pend gp capp p).f D.pen.length = p.b := by
  simp [Dk.f, Dk.pend, List.getD]
theorem Disk.pended {w wb w1 w2 : World} {D : Dk} {gp capp : Nat} {p : It} (h : Disk w D) (hb : Below w.heap.size w wb) (hp1 : p.b < D.nb) (hp2 : p.x.length = 512) (hp3 : OwnB w p.g p.cap p.x) (hp4 : ¬ D.has p.g) (hdn : D.down = false)
    (ho : w1.ownsRow 0 69 2 (.slice (some ⟨gp, 0, none⟩) (D.pen.length + 1) capp) (D.pen.length + 1) (D.pen.flatMap It.cells ++ p.cells)) (hf : Fr (fun k => D.pv.ownBlock = some k) wb w1) (hg : D.pv.ownBlock = some gp ∨ wb.heap.size ≤ gp) (hl : D.pen.length + 1 ≤ 3518437208800)
    (h2 : w2 = w1.setCell ⟨D.d, 1, none⟩ (.slice (some ⟨gp, 0, none⟩) (D.pen.length + 1) capp)) {w3 : World} (h3 : Below w2.heap.size w2 w3) :
    Disk (w3.setCell ⟨D.nw, p.b, none⟩ (.int .i64 ((D.pen.length : Int) + 1))) (D.pend gp capp p) ∧ Mv w D (w3.setCell ⟨D.nw, p.b, none⟩ (.int .i64 ((D.pen.length : Int) + 1))) (D.pend gp capp p) := by
  have hbs := hb.size
  have fs : Fr (fun i => i = D.d) w1 w2 := h2 ▸ Fr.set
  have ft : Fr (fun i => i = D.nw) w3 (w3.setCell ⟨D.nw, p.b, none⟩ (.int .i64 ((D.pen.length : Int) + 1))) := Fr.set
  have f1 : Fr (fun k => D.pv.ownBlock = some k) w w1 := (below_fr hb _).trans hf (fun _ e => .inl e)
  have f2 : Fr (fun k => D.pv.ownBlock = some k ∨ k = D.d) w w2 := (f1.mono (fun _ e => .inl e)).trans fs (fun _ e => .inl (.inr e))
  have f3 : Fr (fun k => D.pv.ownBlock = some k ∨ k = D.d) w w3 := f2.trans (below_fr h3 (fun _ => False)) (fun _ e => e.elim)
  have hfr : Fr D.has w (w3.setCell ⟨D.nw, p.b, none⟩ (.int .i64 ((D.pen.length : Int) + 1))) := (f3.mono (fun _ e => e.elim (fun e => .inr (.inr (.inr (.inl e)))) .inl)).trans ft (fun _ e => .inl (.inr (.inr (.inl e))))
  have hg' : D.pv.ownBlock = some gp ∨ w.heap.size ≤ gp := hg.imp id (fun h => Nat.le_trans hbs h)
  have hhas : ∀ k, (D.pend gp capp p).has k → D.has k ∨ w.heap.size ≤ k := fun k hk => by
    rcases hk with e | e | e | e | e
    · exact .inl (.inl e)
    · exact .inl (.inr (.inl e))
    · exact .inl (.inr (.inr (.inl e)))
    · cases e
      exact hg'.elim (fun e => .inl (.inr (.inr (.inr (.inl e))))) .inr
    · exact .inl (.inr (.inr (.inr (.inr e))))
  have hdg : gp ≠ D.d ∧ gp ≠ D.L ∧ gp ≠ D.nw ∧ D.tv.ownBlock ≠ some gp := by
    rcases hg' with e | e
    · exact h.ap.p gp e
    · refine ⟨fun x => ?_, fun x => ?_, fun x => ?_, fun x => ?_⟩
      · have := h.lt; omega
      · have := h.las.lt; omega
      · have : D.nw < w.heap.size := owns_block h.nws rfl; omega
      · have := owns_block h.tap x; omega
  have hn1 := owns_fr h.nws f3 (fun k hk e => by cases hk; exact e.elim (fun e => (h.ap.p _ e).2.2.1 rfl) (fun e => h.ap.dn e.symm))
  refine h.anew hfr hhas rfl rfl rfl rfl rfl rfl rfl rfl rfl rfl ?_ ?_ ?_ ?_ ?_ ?_ (fun a ha => .inl ha) ?_ (fun e => by rw [show (D.pend gp capp p).down = D.down from rfl, hdn] at e; cases e) ?_ h.tl
  · have r1 := f1.heap h.row (fun e => (h.ap.p _ e).1 rfl)
    have r2 : w2.heap[D.d]? = some (.cells (D.pend gp capp p).cells 55 (0, 0)) := by rw [h2]; exact heap_setCell_same _ _ _ _ _ _ r1
    exact ft.heap ((below_fr h3 (fun _ => False)).heap r2 (fun e => e)) (fun e => h.ap.dn e)
  · exact (h.las.fr f3 (fun e => e.elim (fun e => (h.ap.p _ e).2.1 rfl) (fun e => h.ap.dL e.symm))).fr ft (fun e => h.ap.Ln e)
  · have := owns_set hn1 p.b (.int .i64 ((D.pen.length : Int) + 1))
    rw [← List.map_set] at this
    have e : (newest D.f D.nb D.pen.length).set p.b ((D.pen.length : Int) + 1) = newest (D.pend gp capp p).f D.nb (D.pen.length + 1) := by
      rw [newest_congr (f := D.f) (f' := (D.pend gp capp p).f) _ _ (fun k hk => (pend_f D gp capp p k hk).symm)]
      have e3 := newest_set (D.pend gp capp p).f D.nb D.pen.length (by rw [pend_f1]; exact hp1)
      rw [pend_f1] at e3
      exact e3
    rw [e] at this
    have e2 : (D.pend gp capp p).pen.length = D.pen.length + 1 := by simp [Dk.pend]
    rw [e2]
    exact this
  · have := owns_fr (owns_fr (owns_fr ho fs (fun k hk => by cases hk; exact hdg.1)) (below_fr h3 (fun _ => False)) (fun _ _ e => e)) ft (fun k hk => by cases hk; exact hdg.2.2.1)
    simp only [Dk.pend, List.flatMap_append, List.flatMap_cons, List.flatMap_nil, List.append_nil, List.length_append, List.length_cons, List.length_nil]
    exact this
  · intro q hq
    rcases List.mem_append.1 hq with hq | hq
    · exact .inl hq
    · rw [List.mem_singleton] at hq
      subst hq
      exact .inr ⟨hp1, hp2, hp3.fr hfr hp4, fun e => (hhas _ e).elim hp4 (fun x => by have := hp3.lt; omega)⟩
  · exact owns_fr (owns_fr h.tap f3 (fun k hk e => e.elim (fun e => (h.ap.p _ e).2.2.2 hk) (fun e => (h.ap.t k hk).1 e))) ft (fun k hk => (h.ap.t k hk).2.2.1)
  · exact ⟨h.ap.dL, h.ap.dn, h.ap.Ln, (fun k hk => by cases hk; exact hdg), (fun k hk => ⟨(h.ap.t k hk).1, (h.ap.t k hk).2.1, (h.ap.t k hk).2.2.1, fun e => by cases e; exact hdg.2.2.2 hk⟩)⟩
  · simp only [Dk.pend, List.length_append, List.length_cons, List.length_nil]; exact hl
theorem infoAct : (Try.prog.info? 36).map (fun i => (i.zero, i.size, i.bytes)) = some (some (.agg #[.int .i64 0, .int .i64 0, .slice none 0 0]), 3, 40) := by kernel_rfl
theorem infoWr : (Try.prog.info? 69).map (fun i => (i.zero, i.size, i.bytes)) = some (some (.agg #[.int .i64 0, .slice none 0 0]), 2, 32) := by kernel_rfl
theorem news_of {w : World} {b : Nat} {arr : Array Value} {t : TypeId} (h : w.heap[b]? = some (.cells arr t (0, 0))) (xs : List Value) (hx : arr.toList = xs) : ∀ j u, xs[j]? = some u → w.cell? ((⟨b, 0, none⟩ : Addr).add j) = some u := by
  intro j u hj
  rw [Addr.add_lit, Nat.zero_add, cell_of_row _ _ _ _ _ _ h, ← hj, ← hx, Array.getElem?_toList]
set_option maxRecDepth 100000 in
set_option maxHeartbeats 1600000 in
theorem put_any (w : World) (D : Dk) (h : Disk w D) (i g cap : Nat) (x : List Int) (hi : i < D.nb) (hx : x.length = 512) (hO : OwnB w g cap x) (hg : ¬ D.has g) (hd : D.down = false) (hpl : D.pen.length + 1 ≤ 3518437208800) (htl : D.tap.length + 1 ≤ 3518437208800) :
    Calls Try.prog 27 #[.pointer (some ⟨D.d, 0, none⟩), .int .i64 i, .slice (some ⟨g, 0, none⟩) 512 cap] w fun e w' => e = .returned (.tuple #[]) ∧ ∃ gt ct gp cp, Disk w' ((D.act gt ct ⟨1, i, .slice (some ⟨g, 0, none⟩) 512 cap, x⟩).pend gp cp ⟨i, g, cap, x⟩) ∧ Mv w D w' ((D.act gt ct ⟨1, i, .slice (some ⟨g, 0, none⟩) 512 cap, x⟩).pend gp cp ⟨i, g, cap, x⟩) := by
  obtain ⟨ta, tc, htv, _⟩ := owns_slice h.tap
  obtain ⟨pa, pc, hpv, _⟩ := owns_slice h.pen
  have C3 : w.cell? ⟨D.d, 3, none⟩ = some (.slice ta D.tap.length tc) := by rw [← htv]; exact h.cell 3
  have F3 := h.frozen 3
  have HD : Hid (Disk w D) := h
  have HX : Hid (x.length = 512 ∧ OwnB w g cap x ∧ ¬ D.has g) := ⟨hx, hO, hg⟩
  have HT : Hid (D.tv = .slice ta D.tap.length tc) := htv
  have HP : Hid (D.pv = .slice pa D.pen.length pc) := hpv
  clear h hx hO hg htv hpv
  obtain ⟨i1, j1, j2, j3, j4⟩ := info_parts infoAct
  obtain ⟨i2, k1, k2, k3, k4⟩ := info_parts infoWr
  have HA : Hid (Below w.heap.size w (w.alloc (.cells #[.int .i64 1, .int .i64 i, .slice (some ⟨g, 0, none⟩) 512 cap] 36))) := (Below.refl _ _).alloc (Nat.le_refl _) _
  have HR := heap_alloc_new w (.cells #[.int .i64 1, .int .i64 i, .slice (some ⟨g, 0, none⟩) 512 cap] 36)
  have HN : Hid (∀ j u, (Ac.cells ⟨1, i, .slice (some ⟨g, 0, none⟩) 512 cap, x⟩)[j]? = some u → (w.alloc (.cells #[.int .i64 1, .int .i64 i, .slice (some ⟨g, 0, none⟩) 512 cap] 36)).cell? ((⟨w.heap.size, 0, none⟩ : Addr).add j) = some u) := news_of HR _ rfl
  have HW : Hid ((w.alloc (.cells #[.int .i64 1, .int .i64 i, .slice (some ⟨g, 0, none⟩) 512 cap] 36)).ownsRow 0 36 3 (.slice ta D.tap.length tc) D.tap.length (D.tap.flatMap Ac.cells)) := by
    have e := (HD.out.on HA.out).tap
    rw [HT.out] at e; exact e
  clear HR
  go_enter Try.func27, Try.ntmps27
  go_upto_region 1 with (at_builtin; refine wp_own rfl (.tmp 10) (.tmp 14) 23 rfl 36 i1 _ 3 40 Try.underlying23 j1 j2 j3 j4 rfl (by decide) (.slice ta D.tap.length tc) D.tap.length (D.tap.flatMap Ac.cells) rfl HW.out ⟨w.heap.size, 0, none⟩ 1 1 (Ac.cells ⟨1, i, .slice (some ⟨g, 0, none⟩) 512 cap, x⟩) rfl (by decide) rfl HN.out (by intro u hu; simp [Ac.cells] at hu; rcases hu with rfl | rfl | rfl <;> rfl) (by unfold maxLen; omega) (by omega) ?_; intro gt ct w1 ho hf hgt; rw [← HT.out] at hf hgt; have HQ : Hid (Disk (w1.setCell ⟨D.d, 3, none⟩ (.slice (some ⟨gt, 0, none⟩) (D.tap.length + 1) ct)) (D.act gt ct ⟨1, i, .slice (some ⟨g, 0, none⟩) 512 cap, x⟩) ∧ Mv w D (w1.setCell ⟨D.d, 3, none⟩ (.slice (some ⟨gt, 0, none⟩) (D.tap.length + 1) ct)) (D.act gt ct ⟨1, i, .slice (some ⟨g, 0, none⟩) 512 cap, x⟩)) := HD.out.taped HA.out (.inl ⟨rfl, Int.natCast_nonneg _, Int.ofNat_lt.2 hi, HX.out.1, g, cap, rfl, HX.out.2.1, HX.out.2.2⟩) ho hf hgt htl; have r1 := hf.heap (HD.out.on HA.out).row (fun e => (HD.out.ap.t _ e).1 rfl); have c3 : w1.cell? ⟨D.d, 3, none⟩ = some D.tv := cell_of_row _ _ _ _ _ _ r1; have f3 := frozen_of_row _ _ 3 _ _ r1; clear r1 ho hf hgt)
  clear c3 f3 C3 F3
  generalize w1.setCell ⟨D.d, 3, none⟩ (.slice (some ⟨gt, 0, none⟩) (D.tap.length + 1) ct) = w2 at *
  have C1 : w2.cell? ⟨D.d, 1, none⟩ = some (.slice pa D.pen.length pc) := by rw [← HP.out]; exact HQ.out.1.cell 1
  have hlt : w.heap.size ≤ w2.heap.size := HQ.out.2.fr.size
  have HX2 : Hid (OwnB w2 g cap x ∧ ¬ (D.act gt ct ⟨1, i, .slice (some ⟨g, 0, none⟩) 512 cap, x⟩).has g) := ⟨HX.out.2.1.fr HQ.out.2.fr HX.out.2.2, fun e => (HQ.out.2.has g e).elim HX.out.2.2 (fun e => by have := HX.out.2.1.lt; omega)⟩
  have HA2 : Hid (Below w2.heap.size w2 (w2.alloc (.cells #[.int .i64 i, .slice (some ⟨g, 0, none⟩) 512 cap] 69))) := (Below.refl _ _).alloc (Nat.le_refl _) _
  have HR := heap_alloc_new w2 (.cells #[.int .i64 i, .slice (some ⟨g, 0, none⟩) 512 cap] 69)
  have HN2 : Hid (∀ j u, (It.cells ⟨i, g, cap, x⟩)[j]? = some u → (w2.alloc (.cells #[.int .i64 i, .slice (some ⟨g, 0, none⟩) 512 cap] 69)).cell? ((⟨w2.heap.size, 0, none⟩ : Addr).add j) = some u) := news_of HR _ rfl
  have HW2 : Hid ((w2.alloc (.cells #[.int .i64 i, .slice (some ⟨g, 0, none⟩) 512 cap] 69)).ownsRow 0 69 2 (.slice pa D.pen.length pc) D.pen.length (D.pen.flatMap It.cells)) := by
    have e : World.ownsRow _ 0 _ 2 D.pv D.pen.length (D.pen.flatMap It.cells) := (HQ.out.1.on HA2.out).pen
    rw [HP.out] at e; exact e
  clear HR HN HW HA
  go_upto_region 2 with (at_builtin; refine wp_own rfl (.tmp 22) (.tmp 26) 50 rfl 69 i2 _ 2 32 Try.underlying50 k1 k2 k3 k4 rfl (by decide) (.slice pa D.pen.length pc) D.pen.length (D.pen.flatMap It.cells) rfl HW2.out ⟨w2.heap.size, 0, none⟩ 1 1 (It.cells ⟨i, g, cap, x⟩) rfl (by decide) rfl HN2.out (by intro u hu; simp [It.cells] at hu; rcases hu with rfl | rfl <;> rfl) (by unfold maxLen; omega) (by omega) ?_; intro gp cp w3 ho hf hgp; rw [← HP.out] at hf hgp; have r1 := hf.heap (HQ.out.1.on HA2.out).row (fun e => (HQ.out.1.ap.p _ e).1 rfl); have c3 : w3.cell? ⟨D.d, 1, none⟩ = some D.pv := cell_of_row _ _ _ _ _ _ r1; have f3 : w3.frozen? ⟨D.d, 1, none⟩ = false := frozen_of_row _ _ 1 _ _ r1; have HZ : Hid (w3.ownsRow 0 69 2 (.slice (some ⟨gp, 0, none⟩) (D.pen.length + 1) cp) (D.pen.length + 1) (D.pen.flatMap It.cells ++ It.cells ⟨i, g, cap, x⟩) ∧ Fr (fun k => D.pv.ownBlock = some k) (w2.alloc (.cells #[.int .i64 i, .slice (some ⟨g, 0, none⟩) 512 cap] 69)) w3 ∧ (D.pv.ownBlock = some gp ∨ (w2.alloc (.cells #[.int .i64 i, .slice (some ⟨g, 0, none⟩) 512 cap] 69)).heap.size ≤ gp)) := ⟨ho, hf, hgp⟩; clear r1 ho hf hgp)
  have HN4 : Hid (World.ownsRow w3 0 3 1 (.slice (some ⟨D.nw, 0, none⟩) D.nb D.capN) D.nb ((newest D.f D.nb D.pen.length).map (Value.int .i64))) := owns_fr (HQ.out.1.on HA2.out).nws HZ.out.2.1 (fun k hk e => by cases hk; exact (HQ.out.1.ap.p _ e).2.2.1 rfl)
  have r3 := HZ.out.2.1.heap (HQ.out.1.on HA2.out).row (fun e => (HQ.out.1.ap.p _ e).1 rfl)
  have r4 : (w3.setCell ⟨D.d, 1, none⟩ (.slice (some ⟨gp, 0, none⟩) (D.pen.length + 1) cp)).heap[D.d]? = some (.cells ((D.act gt ct ⟨1, i, .slice (some ⟨g, 0, none⟩) 512 cap, x⟩).cells.setIfInBounds 1 (.slice (some ⟨gp, 0, none⟩) (D.pen.length + 1) cp)) 55 (0, 0)) := heap_setCell_same _ _ 1 _ _ (Value.slice (some ⟨gp, 0, none⟩) (D.pen.length + 1) cp) r3
  obtain ⟨a, c, hv, _, _, hc⟩ := owns_slice (owns_fr HN4.out (Fr.set (g := D.d) (k := 1) (v := .slice (some ⟨gp, 0, none⟩) (D.pen.length + 1) cp)) (fun k hk e => by cases hk; exact HD.out.ap.dn e.symm))
  cases hv
  have T3 := (hc _ _ rfl).2.2 i
  have T2 : (w3.setCell ⟨D.d, 1, none⟩ (.slice (some ⟨gp, 0, none⟩) (D.pen.length + 1) cp)).cell? ⟨D.nw, i, none⟩ = some (.int .i64 (nth (newest D.f D.nb D.pen.length) i)) := (hc _ _ rfl).2.1 i _ (by
    have : i < (newest D.f D.nb D.pen.length).length := by rw [newest_length]; exact hi
    simp [nth, List.getD, this])
  generalize hw4 : w3.setCell ⟨D.d, 1, none⟩ (.slice (some ⟨gp, 0, none⟩) (D.pen.length + 1) cp) = w4 at *
  have T0 : w4.cell? ⟨D.d, 1, none⟩ = some (.slice (some ⟨gp, 0, none⟩) (D.pen.length + 1) cp) := cell_of_row _ _ _ _ _ _ r4
  have T1 : w4.cell? ⟨D.d, 2, none⟩ = some (.slice (some ⟨D.nw, 0, none⟩) D.nb D.capN) := cell_of_row _ _ _ _ _ _ r4
  have HE : Hid (w4 = w3.setCell ⟨D.d, 1, none⟩ (.slice (some ⟨gp, 0, none⟩) (D.pen.length + 1) cp)) := hw4.symm
  have hnb := HD.out.nb1
  clear hw4 r3 r4 hc C1 c3 f3 HN2 HW2
  go_region
  all_goals
    go_wp2
    go_end0
    refine ⟨rfl, gt, ct, gp, cp, ?_⟩
    have hp := HQ.out.1.pended (p := ⟨i, g, cap, x⟩) HA2.out hi HX.out.1 HX2.out.1 HX2.out.2 hd HZ.out.1 HZ.out.2.1 HZ.out.2.2 hpl HE.out ((Below.refl _ w4).drew)
    exact ⟨hp.1, HQ.out.2.trans hp.2⟩
end Go.Proofs.Ytcjfgffkkjekoaa

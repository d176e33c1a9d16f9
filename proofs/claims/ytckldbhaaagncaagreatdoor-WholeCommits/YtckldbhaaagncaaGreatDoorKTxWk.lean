import Derived.Test.YtckldbhaaagncaaGreatDoorTxWj
namespace Go.Proofs.YtckldbhaaagncaaGreatDoor
open Go.RowKit Go.Maps Rec

theorem disk_ne {w : World} {D : Dk} {p t : Nat} {cs : Array Value} {f : Nat × Nat} (h : Disk w D) (hp : w.heap[p]? = some (.cells cs t f)) (h1 : 68 ≠ t) (h2 : 5 ≠ t) (h3 : 3 ≠ t) (h4 : 74 ≠ t) (h5 : 117 ≠ t) : ¬ D.has p := by
  rintro (e | e | e | e | e)
  · have := h.row
    rw [← e, hp] at this
    injection this with z
    injection z with _ z2 _
    exact h1 z2.symm
  · obtain ⟨cur, hc, _⟩ := h.las.row
    rw [← e, hp] at hc
    injection hc with z
    injection z with _ z2 _
    exact h2 z2.symm
  · exact own_apartR h.nws hp h3 (by rw [e]; rfl)
  · exact own_apartR h.pen hp h4 e
  · exact own_apartR h.tap hp h5 e
/-- what a transaction holds behind k puts, over the store 'is' -/
structure CtW (c : Cm) (nb : Nat) (l is : List Int) (P : List (Int × Int)) (k : Nat) : Prop where
  val : ∀ i, i < nb - 98 → valC c l (98 + i) = wantB (nth (putL is (P.take k)) i)
  len : (lst c nb).length ≤ k
theorem CtW.start {nb : Nat} {l is : List Int} {P : List (Int × Int)} (hH : HoldsL l is) (hl : is.length = nb - 98) : CtW (fun _ => none) nb l is P 0 :=
  ⟨fun i hi => by rw [valC_none rfl, hH i (by omega)]; rfl, by rw [lst_none]; exact Nat.le_refl _⟩
theorem CtW.step {c : Cm} {nb : Nat} {l is : List Int} {P : List (Int × Int)} {k : Nat} (h : CtW c nb l is P k) (hl : is.length = nb - 98) (h98 : 98 < nb) (p : Int × Int) (hp : P[k]? = some p) (q : Bk) (hq : q.x = fil (p.2 % 1000).toNat) : CtW (ups c (98 + (p.1 % ((nb - 98 : Nat) : Int)).toNat) (some q)) nb l is P (k + 1) := by
  have hm : (p.1 % ((nb - 98 : Nat) : Int)).toNat < nb - 98 := by
    have h1 := Int.emod_nonneg p.1 (b := ((nb - 98 : Nat) : Int)) (by omega)
    have h2 := Int.emod_lt_of_pos p.1 (b := ((nb - 98 : Nat) : Int)) (by omega)
    omega
  have ht : P.take (k + 1) = P.take k ++ [p] := by
    rw [List.take_add_one, hp]; rfl
  refine ⟨fun i hi => ?_, ?_⟩
  · rw [ht, putL_snoc, hl, nth_set _ _ _ _ (by rw [putL_length, hl]; exact hm)]
    by_cases e : i = (p.1 % ((nb - 98 : Nat) : Int)).toNat
    · rw [if_pos e, e, valC_some (q := q) (ups_same _ _ _), hq]
      unfold wantB
      rw [if_pos (by omega)]
    · rw [if_neg e]
      have : valC (ups c (98 + (p.1 % ((nb - 98 : Nat) : Int)).toNat) (some q)) l (98 + i) = valC c l (98 + i) := by
        unfold valC; rw [ups_other _ _ (by omega)]
      rw [this]; exact h.val i hi
  · rw [lst_len_ups (by omega)]
    have := h.len
    split <;> omega
theorem CtW.holds {c : Cm} {nb : Nat} {l l' is : List Int} {P : List (Int × Int)} {k : Nat} (h : CtW c nb l is P k) (hl : is.length = nb - 98) (hk : P.length ≤ k ∨ k = 90) (hk9 : k ≤ 90) (hv : ∀ i, 98 ≤ i → i < nb → bck l' i = valC c l i) : HoldsL l' (putL is (P.take 90)) := fun i hi => by
  rw [putL_length, hl] at hi
  rw [hv (98 + i) (by omega) (by omega), h.val i hi]
  rcases hk with hk | rfl
  · rw [List.take_of_length_le hk, List.take_of_length_le (by omega)]
  · rfl
theorem putL_bd (P : List (Int × Int)) : ∀ s, (∀ k, -1 ≤ nth s k ∧ nth s k < 1000) → ∀ k, -1 ≤ nth (putL s P) k ∧ nth (putL s P) k < 1000 := by
  induction P with
  | nil => exact fun s h => h
  | cons p P ih =>
    intro s h
    refine ih _ fun k => ?_
    show -1 ≤ nth (s.set (p.1 % (s.length : Int)).toNat (p.2 % 1000)) k ∧ nth (s.set (p.1 % (s.length : Int)).toNat (p.2 % 1000)) k < 1000
    by_cases hk : (p.1 % (s.length : Int)).toNat < s.length
    · rw [nth_set _ _ _ _ hk]
      split
      · omega
      · exact h k
    · rw [List.set_eq_of_length_le (by omega)]; exact h k
/-- rows of one's own that stay -/
def Kp (wr : World) (R : List (Nat × Array Value × Nat)) : Prop := ∀ r ∈ R, wr.heap[r.1]? = some (.cells r.2.1 r.2.2 (0, 0)) ∧ (r.2.2 = 31 ∨ r.2.2 = 38)
theorem Kp.fr {S : Nat → Prop} {wr wz : World} {R : List (Nat × Array Value × Nat)} (h : Kp wr R) (x : Fr S wr wz) (hS : ∀ r ∈ R, ¬ S r.1) : Kp wz R := fun r hr => ⟨x.heap (h r hr).1 (hS r hr), (h r hr).2⟩
theorem Kp.on {wr wz : World} {R : List (Nat × Array Value × Nat)} (h : Kp wr R) (hb : Below wr.heap.size wr wz) : Kp wz R := h.fr (below_fr hb (fun _ => False)) (fun _ _ e => e)
theorem Kp.disk {wr : World} {R : List (Nat × Array Value × Nat)} (h : Kp wr R) {D : Dk} (hd : Disk wr D) : ∀ r ∈ R, ¬ D.has r.1 := fun r hr => by
  obtain ⟨h1, h2⟩ := h r hr
  rcases h2 with e | e
  · rw [e] at h1; exact disk_ne hd h1 (by decide) (by decide) (by decide) (by decide) (by decide)
  · rw [e] at h1; exact disk_ne hd h1 (by decide) (by decide) (by decide) (by decide) (by decide)
theorem Kp.lt {wr : World} {R : List (Nat × Array Value × Nat)} (h : Kp wr R) : ∀ r ∈ R, r.1 < wr.heap.size := fun r hr => heap_lt (h r hr).1
theorem intsAt_fr {S : Nat → Prop} {wr wz : World} {v : Value} {m : List Int} (h : IntsAt wr v m) (x : Fr S wr wz) (hS : ∀ g, v.ownBlock = some g → ¬ S g) : IntsAt wz v m := by
  obtain ⟨a, c, rfl, hl⟩ := h
  refine ⟨a, c, rfl, hl.imp id ?_⟩
  rintro ⟨g, rfl, hc⟩
  exact ⟨g, rfl, fun j x' hj => x.cell (hc j x' hj) (hS g rfl)⟩
/-- between two jobs -/
structure WcA (w0 : World) (nb : Nat) (R : List (Nat × Array Value × Nat)) (wr : World) (E : Dk) (l : List Int) (sI : Value) (is : List Int) (i : Nat) : Prop where
  mine : Mine w0 wr E
  rest : Rest E.abs nb l
  hol : HoldsL l is
  c1 : E.abs.wr ≤ 1000 + 300 * i
  c2 : E.abs.fl ≤ 1000 + 300 * i
  c3 : E.abs.T.length ≤ 1000 + 300 * i
  c4 : E.abs.keep = []
  ints : IntsAt wr sI is
  il : is.length = nb - 98
  ir : ∀ k, -1 ≤ nth is k ∧ nth is k < 1000
  ap : ∀ g, sI.ownBlock = some g → ¬ E.all g ∧ g < wr.heap.size
  kp : Kp wr R
section
variable {w0 wr wz : World} {nb : Nat} {R : List (Nat × Array Value × Nat)} {E : Dk} {l : List Int} {sI : Value} {is : List Int} {i : Nat}
theorem WcA.on (h : WcA w0 nb R wr E l sI is i) (hb : Below wr.heap.size wr wz) : WcA w0 nb R wz E l sI is i :=
  ⟨h.mine.on hb, h.rest, h.hol, h.c1, h.c2, h.c3, h.c4, h.ints.on hb, h.il, h.ir, fun g hg => ⟨(h.ap g hg).1, Nat.lt_of_lt_of_le (h.ap g hg).2 hb.size⟩, h.kp.on hb⟩
/-- a job under way: its transaction, k of its puts written -/
structure WcT (w0 : World) (nb : Nat) (R : List (Nat × Array Value × Nat)) (sI : Value) (is : List Int) (i nB : Nat) (P : List (Int × Int)) (wr : World) (E : Dk) (l : List Int) (T : Tx) (k : Nat) : Prop where
  a : WcA w0 nb R wr E l sI is i
  ses : Ses w0 wr E T
  ct : CtW T.c nb l is P k
  us : T.us.length = k
  low : ∀ q, T.all q → nB ≤ q
  lI : ∀ g, sI.ownBlock = some g → g < nB
  lR : ∀ r ∈ R, r.1 < nB
  lw : nB ≤ wr.heap.size
variable {T : Tx} {nB : Nat} {P : List (Int × Int)} {k : Nat}
theorem WcT.on (h : WcT w0 nb R sI is i nB P wr E l T k) (hb : Below wr.heap.size wr wz) : WcT w0 nb R sI is i nB P wz E l T k :=
  ⟨h.a.on hb, h.ses.on hb, h.ct, h.us, h.low, h.lI, h.lR, Nat.le_trans h.lw hb.size⟩
theorem WcT.nbT (h : WcT w0 nb R sI is i nB P wr E l T k) : T.nb = nb := by rw [← h.ses.nb]; exact h.a.rest.size
/-- Begin -/
theorem wc_begin (h : WcA w0 nb R wr E l sI is i) (P : List (Int × Int)) (d0 : Nat) (hd : E.d = d0) :
    Calls Tryz.prog 6 #[.pointer (some ⟨d0, 0, none⟩)] wr fun e w' => ∃ T, e = .returned (.pointer (some ⟨T.t, 0, none⟩)) ∧ WcT w0 nb R sI is i wr.heap.size P w' E l T 0 ∧ Below wr.heap.size wr w' := by
  refine (begin_any wr d0 E.nb h.mine.disk.nb1).mono ?_
  rintro e w' ⟨T, rfl, h1, h2, h3, h4, h5⟩
  refine ⟨T, rfl, ⟨h.on h1.bel, ses_begin h.mine h1 (h2.trans hd.symm) h3, ?_, by rw [h5]; rfl, h1.far, fun g hg => (h.ap g hg).2, h.kp.lt, h1.bel.size⟩, h1.bel⟩
  rw [h4]; exact CtW.start h.hol h.il
/-- one put -/
theorem WcT.put {T' : Tx} (h : WcT w0 nb R sI is i nB P wr E l T k) (hs : Ses w0 wz E T') (hm : TMv wr T wz T') (h98 : 98 < nb) (p : Int × Int) (hp : P[k]? = some p) (q : Bk) (hq : q.x = fil (p.2 % 1000).toNat) (hc : T'.c = ups T.c (98 + (p.1 % ((nb - 98 : Nat) : Int)).toNat) (some q)) (hu : T'.us.length = T.us.length + 1) : WcT w0 nb R sI is i nB P wz E l T' (k + 1) := by
  have no : ∀ x, x < nB → ¬ T.has x := fun x hx ht => by have := h.low x (.inl ht); omega
  refine ⟨⟨hs.dk, h.a.rest, h.a.hol, h.a.c1, h.a.c2, h.a.c3, h.a.c4, intsAt_fr h.a.ints hm.fr (fun g hg => no g (h.lI g hg)), h.a.il, h.a.ir, fun g hg => ⟨(h.a.ap g hg).1, Nat.lt_of_lt_of_le (h.a.ap g hg).2 hm.fr.size⟩, h.a.kp.fr hm.fr (fun r hr => no _ (h.lR r hr))⟩, hs, ?_, by rw [hu, h.us], fun x hx => (hm.al x hx).elim (h.low x) (fun e => Nat.le_trans h.lw e), h.lI, h.lR, Nat.le_trans h.lw hm.fr.size⟩
  rw [hc]; exact h.ct.step h.a.il h98 p hp q hq
theorem wc_write (h : WcT w0 nb R sI is i nB P wr E l T k) (h98 : 98 < nb) (hk : k < 90) (p : Int × Int) (hp : P[k]? = some p) (g c m : Nat) (hmm : (m : Int) = p.1 % ((nb - 98 : Nat) : Int)) (ho : OwnB wr g c (fil (p.2 % 1000).toNat)) (t0 : Nat) (ht : T.t = t0) :
    Calls Tryz.prog 7 #[.pointer (some ⟨t0, 0, none⟩), .int .i64 (98 + (m : Int)), .slice (some ⟨g, 0, none⟩) 512 c] wr fun e w' => e = .returned (.int .i64 0) ∧ ∃ T', WcT w0 nb R sI is i nB P w' E l T' (k + 1) ∧ T'.t = t0 := by
  have hml : m < nb - 98 := by
    have h2 := Int.emod_lt_of_pos p.1 (b := ((nb - 98 : Nat) : Int)) (by omega)
    omega
  have hcl := h.ct.len
  have := ses_write w0 wr E T h.ses (98 + m) (by omega) (by rw [h.nbT]; omega) ⟨g, 0, none⟩ c _ ho.bytes (fil_length _) (.inr (by rw [h.nbT]; omega)) (by rw [h.us]; omega)
  rw [ht, show ((98 + m : Nat) : Int) = 98 + (m : Int) by omega] at this
  refine this.mono ?_
  rintro e w' ⟨rfl, T', q, u, s1, s2, s3, s4, s5, s6, _⟩
  exact ⟨rfl, T', h.put s1 s2 h98 p hp q s3 (by rw [s5, ← hmm, Int.toNat_natCast]) (by rw [s6]; simp), by rw [s2.t]; exact ht⟩
theorem wc_read (h : WcT w0 nb R sI is i nB P wr E l T k) (m : Nat) (hm : m < nb - 98) (t0 : Nat) (ht : T.t = t0) :
    Calls Tryz.prog 10 #[.pointer (some ⟨t0, 0, none⟩), .int .i64 (98 + (m : Int))] wr fun e w' => ∃ g cap, e = .returned (.tuple #[.slice (some ⟨g, 0, none⟩) 512 cap, .int .i64 0]) ∧ OwnB w' g cap (wantB (nth (putL is (P.take k)) m)) ∧ Below wr.heap.size wr w' := by
  have := tread_any wr T E h.ses.tx h.a.mine.disk h.ses.d h.ses.nb h.a.rest.down (98 + m) (by rw [h.nbT]; omega)
  rw [ht, show ((98 + m : Nat) : Int) = 98 + (m : Int) by omega] at this
  refine this.mono ?_
  rintro e w' ⟨g, cap, rfl, _, ho, hb⟩
  refine ⟨g, cap, rfl, ?_, hb⟩
  rw [← h.ct.val m hm]
  have e : (match T.c (98 + m) with | some q => q.x | none => bck E.full (98 + m)) = valC T.c l (98 + m) := by
    rw [h.a.rest.fullD]; unfold valC; cases T.c (98 + m) <;> rfl
  rw [← e]; exact ho
/-- the transaction is over, the disk as it was -/
theorem WcT.over (h : WcT w0 nb R sI is i nB P wr E l T k) (x : Fr (fun q => q = T.t) wr wz) : WcA w0 nb R wz E l sI is i := by
  have ht : nB ≤ T.t := h.low _ (.inl (.inl rfl))
  refine ⟨⟨h.a.mine.disk.fr x (fun q hq e => ?_), h.a.mine.far, h.a.mine.bel.trans (x.below _ (fun q hq => by rw [hq]; exact h.ses.far _ (.inl (.inl rfl))) h.a.mine.bel.size)⟩, h.a.rest, h.a.hol, h.a.c1, h.a.c2, h.a.c3, h.a.c4, intsAt_fr h.a.ints x (fun g hg e => by have := h.lI g hg; omega), h.a.il, h.a.ir, fun g hg => ⟨(h.a.ap g hg).1, Nat.lt_of_lt_of_le (h.a.ap g hg).2 x.size⟩, h.a.kp.fr x (fun r hr e => by have := h.lR r hr; omega)⟩
  subst e
  exact h.ses.ap2 T.t (.inl rfl) hq
end
end Go.Proofs.YtckldbhaaagncaaGreatDoor

namespace Go.Proofs.YtckldbhaaagncaaGreatDoor
open Go.RowKit Go.Maps Rec

theorem flat5 (l : List JbR) (k : Nat) (hk : k < l.length) (j : Nat) (hj : j < 5) : (l.flatMap JbR.cells)[k * 5 + j]? = (l[k].cells)[j]? := by
  induction l generalizing k with
  | nil => simp at hk
  | cons p l ih =>
    rw [List.flatMap_cons]
    cases k with
    | zero =>
      rw [List.getElem?_append_left (by simp [JbR.cells]; omega)]
      simp
    | succ k =>
      rw [List.getElem?_append_right (by simp [JbR.cells]; omega)]
      have e : (k + 1) * 5 + j - (JbR.cells p).length = k * 5 + j := by simp [JbR.cells]; omega
      rw [e, ih k (by simpa using hk)]
      simp
theorem flat5_len (l : List JbR) : (l.flatMap JbR.cells).length = l.length * 5 := by
  induction l with
  | nil => rfl
  | cons p l ih => rw [List.flatMap_cons, List.length_append, ih]; simp [JbR.cells]; omega
theorem jb_one (q : JbR) : ∀ u ∈ q.cells, u.oneCell' = true := by
  intro u hu
  simp [JbR.cells] at hu
  rcases hu with rfl | rfl | rfl | rfl | rfl <;> rfl
/-- the job that must stand -/
def job0 (gP : Nat) : JbR := ⟨some ⟨gP, 0, none⟩, 2, [(0, 5), (1, 6)], false, ⟨0, none, 0, []⟩, none, 0, []⟩
theorem infoJb : (Tryz.prog.info? 38).map (fun i => (i.zero, i.size, i.bytes)) = some (some (.agg #[.slice none 0 0, .bool false, .int .i64 0, .slice none 0 0, .slice none 0 0]), 5, 88) := by kernel_rfl
/-- append of the jobs handed in to the one that must stand -/
theorem wp_jobs {ops : Array Oper} {rest : List Oper} {o : Oper} {act : Act} {Q : Exit → Act → World → Prop} {wx : World} (hg : o.guard = none) (s x : Operand)
    (ho : o.op = .call { callee := .builtin .append, args := #[s, x], argTypes := #[22, 22] }) (gP m c : Nat) (a : Option Addr) (J : List JbR) (hJ : JbsAt wx a J) (hm : J.length = m) (hz : a = none → c = 0) (h88 : m * 88 ≤ 140737488351232) (gx : Nat) (hgx : gx = wx.heap.size)
    (hs : act.eval s = .slice (some ⟨gx, 0, none⟩) 1 1) (hx : act.eval x = .slice a m c)
    (h : ∀ gJ capJ w', w'.ownsRow 0 38 5 (.slice (some ⟨gJ, 0, none⟩) (1 + m) capJ) (1 + m) ((job0 gP :: J).flatMap JbR.cells) → wx.heap.size ≤ gJ → Below wx.heap.size wx w' → wpList Tryz.prog ops Q rest (act.put o.dst (.slice (some ⟨gJ, 0, none⟩) (1 + m) capJ)) w') :
    wpList Tryz.prog ops Q (o :: rest) act (wx.alloc (.cells #[.slice (some ⟨gP, 0, none⟩) 2 2, .bool false, .int .i64 0, .slice none 0 0, .slice none 0 0] 38)) := by
  subst hm hgx
  obtain ⟨i0, hi, hz0, hz1, hz2⟩ := info_parts infoJb
  have hal : Below wx.heap.size wx (wx.alloc (.cells #[.slice (some ⟨gP, 0, none⟩) 2 2, .bool false, .int .i64 0, .slice none 0 0, .slice none 0 0] 38)) := (Below.refl _ _).alloc (Nat.le_refl _) _
  have hown : (wx.alloc (.cells #[.slice (some ⟨gP, 0, none⟩) 2 2, .bool false, .int .i64 0, .slice none 0 0, .slice none 0 0] 38)).ownsRow 0 38 5 (.slice (some ⟨wx.heap.size, 0, none⟩) 1 1) 1 (job0 gP).cells :=
    ⟨rfl, .inr ⟨_, _, _, rfl, Nat.zero_le _, heap_alloc_new _ _, Nat.le_refl _, by unfold maxLen; omega, rfl, rfl⟩⟩
  by_cases h0 : J.length = 0
  · have hJ0 : J = [] := List.eq_nil_of_length_eq_zero h0
    subst hJ0
    have hfin := h wx.heap.size 1 _ hown (Nat.le_refl _) hal
    cases a with
    | none =>
      have := hz rfl
      subst this
      exact wpList_append_own_none hg s x 22 ho 0 38 i0 5 Tryz.underlying22 hi _ _ _ hs hown hx hfin
    | some ad =>
      have hr := run_append_room (P := Tryz.prog) (wx.alloc (.cells #[.slice (some ⟨gP, 0, none⟩) 2 2, .bool false, .int .i64 0, .slice none 0 0, .slice none 0 0] 38)) 22 o.type 38 i0 Tryz.underlying22 hi wx.heap.size 1 1 #[.slice (some ⟨gP, 0, none⟩) 2 2, .bool false, .int .i64 0, .slice none 0 0, .slice none 0 0] (heap_alloc_new _ _) ad 0 c [] (by simp) (by simp) (by simp) (by omega) (by rw [hz1]; simp)
      refine wpList_plain hg fun K hK => ?_
      unfold Oper.wp execOp
      simp only [ho, resolve, invoke, builtin, Sem.run_bind, Sem.run_pure, Result.andThen_ok, List.map_toArray, List.map_cons, List.map_nil, List.length_nil] at hr hs hx ⊢
      have e : (wx.alloc (.cells #[.slice (some ⟨gP, 0, none⟩) 2 2, .bool false, .int .i64 0, .slice none 0 0, .slice none 0 0] 38)).setRow wx.heap.size #[.slice (some ⟨gP, 0, none⟩) 2 2, .bool false, .int .i64 0, .slice none 0 0, .slice none 0 0] = wx.alloc (.cells #[.slice (some ⟨gP, 0, none⟩) 2 2, .bool false, .int .i64 0, .slice none 0 0, .slice none 0 0] 38) := by
        have hm : ∀ (a : Array Obj) (x : Obj) (f : Obj → Obj), (a.push x).modify a.size f = a.push (f x) := by
          intro a x f
          apply Array.ext
          · simp
          · intro i h1 h2
            simp only [Array.getElem_modify, Array.getElem_push]
            by_cases h : a.size = i
            · subst h
              simp
            · have hi : i < a.size := by simp at h1; omega
              simp [h, hi]
        simp only [World.setRow, World.alloc, hm]
      simp only [hs, hx, hr]
      rw [hz1]
      show Oper.upon Tryz.prog o act K Q ((Result.ok (.slice (some ⟨wx.heap.size, 0, none⟩) (1 + 0) 1) ((wx.alloc (.cells #[.slice (some ⟨gP, 0, none⟩) 2 2, .bool false, .int .i64 0, .slice none 0 0, .slice none 0 0] 38)).setRow wx.heap.size #[.slice (some ⟨gP, 0, none⟩) 2 2, .bool false, .int .i64 0, .slice none 0 0, .slice none 0 0])).andThen fun a w' => Result.ok (Next.value a) w')
      rw [e, Result.andThen_ok, Oper.upon_value]
      exact hK _ _ hfin
  · have hJc := hJ.at_.resolve_left (fun e => h0 (by rw [e]; rfl))
    obtain ⟨b, off, rfl, hc⟩ := hJc
    refine wp_own hg s x 22 ho 38 i0 _ 5 88 Tryz.underlying22 hi hz0 hz1 hz2 rfl (by decide) _ 1 _ hs hown ⟨b, off, none⟩ J.length c (J.flatMap JbR.cells) hx (by omega) (flat5_len J) (fun j u hj => ?_) (fun u hu => ?_) (by unfold maxLen; omega) (by omega) ?_
    · have hlt : j < J.length * 5 := by
        rcases Nat.lt_or_ge j (J.length * 5) with h | h
        · exact h
        · rw [List.getElem?_eq_none (by rw [flat5_len]; exact h)] at hj; cases hj
      have hk : j / 5 < J.length := by omega
      have ej : j = j / 5 * 5 + j % 5 := by omega
      rw [ej, flat5 J (j / 5) hk (j % 5) (by omega)] at hj
      have hcell := (hc (j / 5) J[j / 5] (List.getElem?_eq_getElem hk)).1 (j % 5) u hj
      rw [Addr.add_lit, ej, ← Nat.add_assoc]
      exact (below_fr hal (fun _ => False)).cell hcell (fun e => e)
    · obtain ⟨q, _, hq⟩ := List.mem_flatMap.1 hu
      exact jb_one q u hq
    · intro gJ capJ w' h1 h2 h3
      refine h gJ capJ w' h1 ?_ (hal.trans (h2.below wx.heap.size (fun k hk => by have e : wx.heap.size = k := Option.some.inj hk; omega) hal.size))
      rcases h3 with h3 | h3
      · have e : wx.heap.size = gJ := Option.some.inj h3
        omega
      · exact Nat.le_trans hal.size h3
end Go.Proofs.YtckldbhaaagncaaGreatDoor

import Derived.Test.YtflienghgobmoaaGreatDoorKALasts
namespace Go.Proofs.YtflienghgobmoaaGreatDoor
open Go.RowKit Go.Maps Go.Shelf Rec
attribute [local go_sem] Oper.semAt_some

/-- the steps from m on, carried out in whatever order -/
def cof {L : Nat} (U : Fin L → Un) (c : Cm) (pre : List (Fin L)) : Cm := pre.foldl (fun c x => ups c (U x).i (U x).old) c
theorem cof_snoc {L : Nat} (U : Fin L → Un) (c : Cm) (pre : List (Fin L)) (x : Fin L) : cof U c (pre ++ [x]) = ups (cof U c pre) (U x).i (U x).old := by simp [cof]
theorem cof_ok {L : Nat} (U : Fin L → Un) (nb : Nat) (hU : ∀ x, 98 ≤ (U x).i ∧ (U x).i < nb ∧ ∀ q, (U x).old = some q → q.n = ((U x).i : Int)) : ∀ (pre : List (Fin L)) (c : Cm), COk c nb → COk (cof U c pre) nb
  | [], _, h => h
  | x :: pre, _, h => cof_ok U nb hU pre _ (h.ups _ (hU x).1 (hU x).2.1 (hU x).2.2)
theorem cof_des (us : List Un) (c : Cm) : cof (fun x : Fin us.length => us[x.1]) c (des us.length 0) = undo c us := by
  unfold cof des undo
  rw [List.drop_zero, List.foldl_reverse]
  have e : us = (List.finRange us.length).map (fun x => us[x.1]) := by
    apply List.ext_getElem <;> simp
  conv => rhs; rw [e]
  rw [List.foldr_map]
/-- between two undo steps -/
structure BkI {L : Nat} (U : Fin L → Un) (w1 : World) (T : Tx) (pre : List (Fin L)) (W : World) : Prop where
  map : MapAt W T.mb (cof U T.c pre) T.nb
  fr : Fr (fun k => k = T.mb ∨ w1.heap.size ≤ k) w1 W
theorem BkI.own {L : Nat} (U : Fin L → Un) (w1 : World) (T : Tx) (hmb : T.mb < w1.heap.size) : OwnFrom w1.heap.size (BkI U w1 T) := fun pre W W' row h hg hr => by
  have hmb2 : some T.mb ≠ row := fun e => by have := (hr T.mb e.symm).1; omega
  refine ⟨World.ownsMap.kept h.map hg hmb2, ?_⟩
  have hF : Fr (fun k => row = some k) W W' := ⟨hg.os, hg.tape, hg.output, hg.size, fun k hk hS => hg.block k hk (fun e => hS e.symm)⟩
  exact h.fr.trans hF (fun k hk => .inl (.inr (hr k hk).1))
theorem BkI.step {L : Nat} {U : Fin L → Un} {w1 W W' : World} {T : Tx} {pre : List (Fin L)} {x : Fin L} (h : BkI U w1 T pre W) (hm : MapAt W' T.mb (ups (cof U T.c pre) (U x).i (U x).old) T.nb) (hF : Fr (fun k => k = T.mb) W W') (hmb : T.mb < w1.heap.size) :
    KeepsFrom w1.heap.size W W' ∧ KpM w1.heap.size T.mb W W' ∧ BkI U w1 T (pre ++ [x]) W' := by
  have hsz := h.fr.size
  refine ⟨⟨hF.size, fun k o hB hk _ => ?_⟩, fun k hk hne => hF.block k (by omega) hne, ⟨by rw [cof_snoc]; exact hm, h.fr.trans hF (fun k hk => .inl (.inl hk))⟩⟩
  have hkl : k < W.heap.size := heap_lt hk
  rw [hF.block k hkl (by show ¬ k = T.mb; omega)]
  exact hk
theorem KpM.put {n₀ mb : Nat} {w : World} (hn : n₀ ≤ w.heap.size) (W : World) (l : Nat) (o o' : Obj) (hl : w.heap.size ≤ l) (_ : W.heap[l]? = some o) (_ : o.isCells = false) (_ : o.isWalk = false) : KpM n₀ mb W (W.putObj l o') := fun k hk _ => by
  have hne : l ≠ k := by omega
  simp [World.putObj, hne]
theorem undo_some {us : List Un} : ∀ {c : Cm} {i : Nat} {q : Bk}, undo c us i = some q → c i = some q ∨ ∃ u, u ∈ us ∧ u.old = some q ∧ u.i = i := by
  induction us with
  | nil => intro c i q h; exact .inl h
  | cons u us ih =>
    intro c i q h
    have h' : ups (undo c us) u.i u.old i = some q := h
    by_cases e : i = u.i
    · subst e
      rw [ups_same] at h'
      exact .inr ⟨u, .head _, h', rfl⟩
    · rw [ups_other _ _ e] at h'
      rcases ih h' with h2 | ⟨v, h1, h2, h3⟩
      · exact .inl h2
      · exact .inr ⟨v, .tail _ h1, h2, h3⟩
theorem undo_ok {us : List Un} {nb : Nat} (hU : ∀ u ∈ us, 98 ≤ u.i ∧ u.i < nb ∧ ∀ q, u.old = some q → q.n = (u.i : Int)) {c : Cm} (h : COk c nb) : COk (undo c us) nb := by
  induction us with
  | nil => exact h
  | cons u us ih => exact (ih (fun v hv => hU v (.tail _ hv))).ups _ (hU u (.head _)).1 (hU u (.head _)).2.1 (hU u (.head _)).2.2
/-- behind a Back -/
theorem back_end {w W' : World} {T : Tx} {m : Nat} {v : Value} (h : TxAt w T) (hv : ∀ k, v.ownBlock = some k → T.uv.ownBlock = some k) (hF : Fr T.has w W')
    (hrow : W'.heap[T.t]? = some (.cells #[.pointer (some ⟨T.d, 0, none⟩), .map (some T.mb), v, .bool false] 116 (0, 0))) (hmap : MapAt W' T.mb (undo T.c (T.us.drop m)) T.nb) (hund : W'.ownsRow 0 1 1 v (T.us.take m).length ((T.us.take m).map Un.v)) (hcnt : (lst (undo T.c (T.us.drop m)) T.nb).length ≤ 96) :
    ∃ T', TxAt W' T' ∧ TMv w T W' T' ∧ T'.c = undo T.c (T.us.drop m) ∧ T'.us = T.us.take m := by
  have hd : ∀ u ∈ T.us.drop m, u ∈ T.us := fun u hu => List.mem_of_mem_drop hu
  have ht : ∀ u ∈ T.us.take m, u ∈ T.us := fun u hu => List.mem_of_mem_take hu
  have held : ∀ k, ((T.setC (undo T.c (T.us.drop m))).setU v (T.us.take m)).held k → T.held k := fun k hk => by
    rcases hk with ⟨i, q, hq, rfl⟩ | ⟨u, hu, hk⟩
    · rcases undo_some hq with e | ⟨u, h1, h2, h3⟩
      · exact .inl ⟨i, q, e, rfl⟩
      · exact .inr ⟨u, hd u h1, .inr (.inr (.inr (.inr ⟨q, h2, rfl⟩)))⟩
    · exact .inr ⟨u, ht u hu, hk⟩
  have has : ∀ k, ((T.setC (undo T.c (T.us.drop m))).setU v (T.us.take m)).has k → T.has k := fun k hk => by
    rcases hk with e | e | e
    · exact .inl e
    · exact .inr (.inl e)
    · exact .inr (.inr (hv k e))
  refine ⟨(T.setC (undo T.c (T.us.drop m))).setU v (T.us.take m), ⟨hrow, hmap, undo_ok (fun u hu => h.unb u (hd u hu)) h.ok, fun i q hq => ?_, hund, fun u hu => (h.una u (ht u hu)).fr hF (fun k hk => h.ap3 k (.inr ⟨u, ht u hu, hk⟩)), fun u hu => h.unb u (ht u hu), h.ap1, fun k hk => h.ap2 k (hv k hk), fun k hk hh => h.ap3 k (held k hk) (has k hh), ?_, h.n16, hcnt⟩, ⟨hF, fun k hk => .inl (hk.elim (fun e => .inl (has k e)) (fun e => .inr (held k e))), fun k hk => .inl (has k hk), rfl, rfl, rfl⟩, rfl, rfl⟩
  · rcases undo_some hq with e | ⟨u, h1, h2, h3⟩
    · exact (h.blk i q e).fr hF (h.ap3 _ (.inl ⟨i, q, e, rfl⟩))
    · exact ((h.una u (hd u h1)).blk q h2).fr hF (h.ap3 _ (.inr ⟨u, hd u h1, .inr (.inr (.inr (.inr ⟨q, h2, rfl⟩)))⟩))
  · show (T.us.take m).length ≤ _
    have := h.ul
    rw [List.length_take]
    omega
/-- a part of a row is written over -/
theorem row_setCells (g : Nat) (t : TypeId) : ∀ (vs : List Value) (o : Nat) (w : World) (cur : Array Value), w.heap[g]? = some (.cells cur t (0, 0)) → ∃ cur', (w.setCells g o vs).heap[g]? = some (.cells cur' t (0, 0)) ∧ cur'.size = cur.size ∧ cur'.toList.take o = cur.toList.take o
  | [], _, _, cur, h => ⟨cur, h, rfl, rfl⟩
  | v :: vs, o, w, cur, h => by
    obtain ⟨cur', h1, h2, h3⟩ := row_setCells g t vs (o + 1) _ _ (heap_setCell_same w g o cur t v h)
    refine ⟨cur', h1, by simpa using h2, ?_⟩
    have := congrArg (List.take o) h3
    rw [List.take_take, List.take_take, Nat.min_eq_left (by omega)] at this
    rw [this]
    simp [List.take_set_of_le]
theorem back_same {w W' : World} {T : Tx} {m : Nat} {v : Value} (h : TxAt w T) (hm : T.us.length = m) (hv : T.uv = v) (hF : Fr (fun k => k = T.t ∨ k = T.mb ∨ w.heap.size ≤ k) w W')
    (hrow : W'.heap[T.t]? = some (.cells #[.pointer (some ⟨T.d, 0, none⟩), .map (some T.mb), v, .bool false] 116 (0, 0))) (hmap : MapAt W' T.mb T.c T.nb) :
    ∃ T', TxAt W' T' ∧ TMv w T W' T' ∧ T'.c = undo T.c (T.us.drop m) ∧ T'.us = T.us.take m := by
  have hd : T.us.drop m = [] := List.drop_eq_nil_of_le (by omega)
  have ht : T.us.take m = T.us := List.take_of_length_le (by omega)
  have hF' : Fr T.has w W' := ⟨hF.os, hF.tape, hF.output, hF.size, fun k hk hS => hF.block k hk (fun e => by
    rcases e with e | e | e
    · exact hS (.inl e)
    · exact hS (.inr (.inl e))
    · omega)⟩
  subst hv
  refine back_end (m := m) h (fun k hk => hk) hF' hrow (by rw [hd]; exact hmap) ?_ (by rw [hd]; exact h.cnt)
  rw [ht]
  exact owns_fr h.und hF (fun k hk e => by
    have h1 := h.ap2 k hk
    have h2 := owns_block h.und hk
    rcases e with e | e | e
    · exact h1.1 e
    · exact h1.2 e
    · omega)
theorem fr_putObj (w : World) (D : Nat) (o : Obj) : Fr (fun k => k = D) w (w.putObj D o) := ⟨rfl, rfl, rfl, by simp [World.putObj], fun k _ hne => by
  have hne : k ≠ D := hne
  simp [World.putObj, hne.symm]⟩
set_option maxRecDepth 100000 in
set_option maxHeartbeats 8000000 in
theorem tback_ok (w : World) (T : Tx) (h : TxAt w T) (hnb : T.nb ≤ 16384) (m : Nat) (hm : m ≤ T.us.length) (hcnt : (lst (undo T.c (T.us.drop m)) T.nb).length ≤ 96) :
    Calls Tryz.prog 64 #[.pointer (some ⟨T.t, 0, none⟩), .int .i64 (m : Int)] w fun e w' => e = .returned (.int .i64 0) ∧ ∃ T', TxAt w' T' ∧ TMv w T w' T' ∧ T'.c = undo T.c (T.us.drop m) ∧ T'.us = T.us.take m := by
  refine (callsIn_wide (n := 6)).1 ?_
  obtain ⟨n, hn⟩ : ∃ n, T.us.length = n := ⟨_, rfl⟩
  obtain ⟨a, c, huv, hac, hcase, hcells⟩ := owns_slice h.und
  rw [hn] at huv hac hcase hm
  have hc3 : w.cell? ⟨T.t, 3, none⟩ = some (.bool false) := h.cell 3
  have hc2 : w.cell? ⟨T.t, 2, none⟩ = some (.slice a n c) := by rw [← huv]; exact h.cell 2
  have hul : n ≤ 4000000 := by rw [← hn]; exact h.ul
  have HT : Hid (TxAt w T) := h
  have HX : Hid ((n = 0 ∨ ∃ g, a = some ⟨g, 0, none⟩) ∧ T.us.length = n ∧ (lst (undo T.c (T.us.drop m)) T.nb).length ≤ 96) := ⟨hcase, hn, hcnt⟩
  have cB : ∀ (aa : Option Addr) (ln cp : Nat) (W : World), CallsIn Fence.wide 5 Tryz.prog 103 #[.slice aa ln cp] W fun e w' => e = .returned (.func (.func 141) #[] #[.pointer (some ⟨W.heap.size, 0, none⟩)]) ∧ w' = W.alloc (.cells #[.slice aa ln cp] 114) := fun aa ln cp W => back_in Fence.wide 5 trivial rfl aa ln cp W
  have hfB : Fence.wide.fn 103 := trivial
  have h0m : (0 : Int) ≤ (m : Int) := by omega
  have HCe : Hid (∀ g, a = some ⟨g, 0, none⟩ → (∀ j u, (T.us.map Un.v)[j]? = some u → w.cell? ⟨g, j, none⟩ = some u) ∧ (∀ j, w.frozen? ⟨g, j, none⟩ = false)) := fun g e => (hcells g 0 e).2
  have HG : Hid (∀ g, a = some ⟨g, 0, none⟩ → g < w.heap.size ∧ g ≠ T.mb ∧ g ≠ T.t ∧ ∃ cur, w.heap[g]? = some (.cells cur 1 (0, 0)) ∧ n ≤ c ∧ c ≤ maxLen ∧ cur.size = c ∧ cur.toList.take n = T.us.map Un.v) := fun g e => by
    have hob : T.uv.ownBlock = some g := by rw [huv, e]; rfl
    have hap := h.ap2 g hob
    have hr := h.und
    rw [hn, huv, e] at hr
    refine ⟨owns_block h.und hob, hap.2, hap.1, ?_⟩
    rcases hr.2 with ⟨e1, _⟩ | ⟨g', cap, cur, e1, h1, hg, h2, h3, h4, h5⟩
    · cases e1
    · cases e1
      exact ⟨cur, hg, h2, h3, by simpa using h4, by simpa using h5⟩
  have HUv : Hid (T.uv = .slice a n c) := huv
  clear h hcells hcase hcnt hn huv
  by_cases hlt : m < n
  · obtain ⟨g, rfl⟩ := HX.out.1.resolve_left (by omega)
    have hne : ¬ c = m := by omega
    refine callsIn_of_wp_marks Tryz.func64 rfl trivial ?_ rfl
    simp only [Tryz.ntmps64, List.size_toArray, List.length_cons, List.length_nil, Nat.reduceAdd, Nat.reduceSub, Array.replicate_succ, Array.replicate_zero, List.push_toArray, List.append_toArray, List.nil_append, List.cons_append]
    gi_wp2_with (gi_at_call 103; refine (cB _ _ _ _).mono ?_; rintro e w' ⟨rfl, rfl⟩)
    obtain ⟨us2, hus2⟩ : ∃ us2, T.us.drop m = us2 := ⟨_, rfl⟩
    have hL : n - m = us2.length := by rw [← hus2, List.length_drop, HX.out.2.1]
    have hg := HG.out g rfl
    rw [hL]
    obtain ⟨w1, hw1⟩ : ∃ w1, w.alloc (.cells #[.slice (some ⟨g, m, none⟩) us2.length (c - m)] 114) = w1 := ⟨_, rfl⟩
    have hb1 : Below w.heap.size w w1 := by rw [← hw1]; exact (Below.refl _ w).alloc (Nat.le_refl _) _
    have hs1 : w1.heap.size = w.heap.size + 1 := by rw [← hw1]; simp
    have hbs : w1.cell? ⟨w.heap.size, 0, none⟩ = some (.slice (some ⟨g, m, none⟩) us2.length (c - m)) := by rw [← hw1]; simp
    have hmb : T.mb < w.heap.size := HT.out.map.lt
    have hsub : ∀ u ∈ us2, u ∈ T.us := by rw [← hus2]; exact fun u hu => List.mem_of_mem_drop hu
    have hun : ∀ x : Fin us2.length, us2[x.1] ∈ T.us := fun x => hsub _ (List.getElem_mem _)
    have hdr : ∀ i : Nat, us2[i]? = T.us[m + i]? := fun i => by rw [← hus2, List.getElem?_drop]
    have hcs : ∀ j : Fin us2.length, w1.cell? ⟨g, m + j.1, none⟩ = some (us2[j.1]).v := fun j => by
      refine (hb1.cell (by show g < _; omega)).trans ((HCe.out g rfl).1 (m + j.1) _ ?_)
      have : us2[j.1]? = some us2[j.1] := List.getElem?_eq_getElem _
      rw [List.getElem?_map, ← hdr, this]; rfl
    rw [hw1]
    have HX1 : Hid (TxAt w1 T) := HT.out.on hb1
    refine wpIn_rangeFunc_ownG rfl (by omega) (gf := 141) (lb := #[.pointer (some ⟨w.heap.size, 0, none⟩)]) rfl trivial (enters_of Tryz.func141 (by kernel_rfl) rfl)
      (back_stops Fence.wide 5 trivial rfl (by omega) w.heap.size w1.heap.size T.mb us2.length (c - m) (some ⟨g, m, none⟩) (fun x => us2[x.1].v) (by omega) w1 (by omega) (by omega) (Nat.le_refl _) hbs (.inr ⟨g, m, rfl, by omega, hg.2.1, hcs⟩)) KpM.trans (KpM.put (Nat.le_refl _)) (Below.refl _ _) (fun _ => rfl)
      (BkI (fun x => us2[x.1]) w1 T) (fun _ _ _ => False) (BkI.own _ w1 T (by omega)) (fun _ _ _ _ _ hs _ _ => hs.elim) ⟨HX1.out.map, Fr.refl _ _⟩ ?a1 ?assign ?body ?done ?stop
    case assign =>
      intro l x W K hK
      gi_wp2
      exact hK
    case body =>
      rintro l pre x W hI _
      have hUn : UnAt W T.t us2[x.1] := (HX1.out.una _ (hun x)).fr hI.fr (fun k hk e => by
        rcases e with e | e
        · exact HX1.out.ap3 k (.inr ⟨_, hun x, hk⟩) (.inr (.inl e))
        · have := HX1.out.lt (k := k) (.inr (.inr ⟨_, hun x, hk⟩)); omega)
      have hc1 : W.cell? ⟨T.t, 1, none⟩ = some (.map (some T.mb)) := hI.fr.cell (HX1.out.cell 1) (fun e => by
        rcases e with e | e
        · exact HX1.out.ap1 e
        · have := HX1.out.lt (k := T.t) (.inl (.inl rfl)); have e : w1.heap.size ≤ T.t := e; omega)
      have hbx := HX1.out.unb _ (hun x)
      have hok : COk (cof (fun x : Fin us2.length => us2[x.1]) T.c pre) T.nb := cof_ok _ T.nb (fun y => HX1.out.unb _ (hun y)) pre T.c HX1.out.ok
      have cU := (callsIn_wide (n := 6 - 1 - 1 - 1)).2 (undo_step W T.t T.mb T.nb _ us2[x.1] hc1 hI.map hok hUn hbx.2.1 hnb hbx.2.2)
      have HCU : Hid (CallsIn Fence.wide (6 - 1 - 1 - 1) Tryz.prog 78 #[.pointer (some ⟨us2[x.1].bw, 0, none⟩), .pointer (some ⟨us2[x.1].bb, 0, none⟩), .pointer (some ⟨us2[x.1].bt, 0, none⟩), .pointer (some ⟨us2[x.1].bi, 0, none⟩)] W fun e w' => e = .returned (.tuple #[]) ∧ (KeepsFrom w1.heap.size W w' ∧ KpM w1.heap.size T.mb W w' ∧ BkI (fun x : Fin us2.length => us2[x.1]) w1 T (pre ++ [x]) w')) := by
        refine cU.mono ?_
        rintro e w' ⟨rfl, h1, h2⟩
        exact ⟨rfl, hI.step h1 h2 (by omega)⟩
      clear cU hok hbx hc1 hUn
      have hfW : Fence.wide.fn 78 := trivial
      rw [show us2[x.1].v = .func (.func 78) #[] #[.pointer (some ⟨us2[x.1].bw, 0, none⟩), .pointer (some ⟨us2[x.1].bb, 0, none⟩), .pointer (some ⟨us2[x.1].bt, 0, none⟩), .pointer (some ⟨us2[x.1].bi, 0, none⟩)] from rfl]
      gi_wp2_with (gi_at_call 78; refine (CallsIn.inRound l HCU.out).mono ?_; rintro e W' ⟨rfl, hx⟩)
      exact hx
    case done =>
      rintro D xs W hD rfl hI hK
      have hDl : D < W.heap.size := heap_lt hK
      have hne2 : ¬ c = m := hne
      have hbt : T.t < w1.heap.size := HX1.out.lt (.inl (.inl rfl))
      have hWr : W.heap[T.t]? = some (.cells T.cells 116 (0, 0)) := hI.fr.heap HX1.out.row (fun e => by
        rcases e with e | e
        · exact HX1.out.ap1 e
        · have e : w1.heap.size ≤ T.t := e; omega)
      obtain ⟨cur, hcg, _, hcm, hcz, hct⟩ := hg.2.2.2
      have hWg : W.heap[g]? = some (.cells cur 1 (0, 0)) := hI.fr.heap ((hb1.block _ hg.1).trans hcg) (fun e => by
        rcases e with e | e
        · exact hg.2.1 e
        · have e : w1.heap.size ≤ g := e; omega)
      have hTu : T.cells = #[.pointer (some ⟨T.d, 0, none⟩), .map (some T.mb), .slice (some ⟨g, 0, none⟩) n c, .bool false] := by unfold Tx.cells; rw [HUv.out]
      rw [hTu] at hWr
      have e2 : W.cell? ⟨T.t, 2, none⟩ = some (.slice (some ⟨g, 0, none⟩) n c) := by rw [cell_of_row _ _ _ _ _ _ hWr]; rfl
      obtain ⟨vs, hvs⟩ : ∃ vs, (Builtin.zeroCells #[Value.nilFunc] us2.length).toList = vs := ⟨_, rfl⟩
      have hvl : vs.length = us2.length := by rw [← hvs, Array.length_toList, size_zeroCells]; simp
      have hvo : ∀ v ∈ vs, v.oneCell' = true := by
        rw [← hvs]
        intro v hv
        simp [Builtin.zeroCells] at hv
        obtain ⟨j, _, rfl⟩ := hv
        rw [Nat.mod_one]; rfl
      have hcl : ∀ ty, (Builtin.clear_ #[114] ty #[.slice (some ⟨g, m, none⟩) us2.length (c - m)]).run Tryz.prog W = .ok (.tuple #[]) (W.setCells g m vs) := fun ty => by
        have hst := run_storeCells_cells (P := Tryz.prog) g m vs 0 W (fun j hj => by rw [cell_of_row _ _ _ _ _ _ hWg, Array.getElem?_eq_getElem (by omega)]; rfl) (fun j hj => frozen_of_row _ _ _ _ _ hWg) hvo
        rw [Nat.add_zero] at hst
        obtain ⟨k, hk⟩ : ∃ k, us2.length = k + 1 := ⟨us2.length - 1, by omega⟩
        rw [hk] at hvs ⊢
        simp [Builtin.clear_, run_underlying Tryz.underlying114]
        rw [show Value.nilFunc.cells = #[Value.nilFunc] from rfl, hvs, hst]
        rfl
      obtain ⟨W2, hW2⟩ : ∃ W2, W.setCells g m vs = W2 := ⟨_, rfl⟩
      have F2 : Fr (fun k => k = g) W W2 := by rw [← hW2]; exact fr_setCells g vs m W
      obtain ⟨cur2, hg2, hz2, ht2⟩ : ∃ cur2, W2.heap[g]? = some (.cells cur2 1 (0, 0)) ∧ cur2.size = cur.size ∧ cur2.toList.take m = cur.toList.take m := by rw [← hW2]; exact row_setCells g _ vs m W cur hWg
      rw [hW2] at hcl
      have hWr2 := F2.heap hWr (fun e => hg.2.2.1 e.symm)
      have e3 : W2.cell? ⟨T.t, 2, none⟩ = some (.slice (some ⟨g, 0, none⟩) n c) := by rw [cell_of_row _ _ _ _ _ _ hWr2]; rfl
      have f3 : W2.frozen? ⟨T.t, 2, none⟩ = false := frozen_of_row _ _ _ _ _ hWr2
      have hKd : W2.heap[D]? = some (.deferred (some [])) := F2.heap hK (fun e => by
        have e : D = g := e
        rw [e, hWg] at hK; cases hK)
      have HEnd : Hid (∃ T', TxAt ((W2.setCell ⟨T.t, 2, none⟩ (.slice (some ⟨g, 0, none⟩) m c)).putObj D (.deferred none)) T' ∧ TMv w T ((W2.setCell ⟨T.t, 2, none⟩ (.slice (some ⟨g, 0, none⟩) m c)).putObj D (.deferred none)) T' ∧ T'.c = undo T.c (T.us.drop m) ∧ T'.us = T.us.take m) := by
        have hob : T.uv.ownBlock = some g := by rw [HUv.out]; rfl
        have F4 : Fr (fun k => k = T.t) W2 (W2.setCell ⟨T.t, 2, none⟩ (.slice (some ⟨g, 0, none⟩) m c)) := Fr.set
        have F5 : Fr (fun k => k = D) (W2.setCell ⟨T.t, 2, none⟩ (.slice (some ⟨g, 0, none⟩) m c)) ((W2.setCell ⟨T.t, 2, none⟩ (.slice (some ⟨g, 0, none⟩) m c)).putObj D (.deferred none)) := fr_putObj _ _ _
        have hDt : D ≠ T.t := by omega
        have hDg : D ≠ g := by omega
        have hDm : D ≠ T.mb := by omega
        have hF : Fr T.has w ((W2.setCell ⟨T.t, 2, none⟩ (.slice (some ⟨g, 0, none⟩) m c)).putObj D (.deferred none)) :=
          ((((below_fr hb1 T.has).trans hI.fr (fun k hk => hk.elim (fun e => .inl (.inr (.inl e))) (fun e => .inr (by omega)))).trans F2 (fun k hk => .inl (.inr (.inr (by rw [hk]; exact hob))))).trans F4 (fun k hk => .inl (.inl hk))).trans F5 (fun k hk => .inr (by omega))
        refine back_end (v := .slice (some ⟨g, 0, none⟩) m c) HT.out (fun k hk => by cases hk; exact hob) hF ?_ ?_ ?_ HX.out.2.2
        · refine F5.heap ?_ (fun e => hDt e.symm)
          have := heap_setCell_same W2 T.t 2 _ _ (.slice (some ⟨g, 0, none⟩) m c) hWr2
          exact this
        · have hmp := hI.map
          rw [cof_des, ← hus2] at hmp
          exact ((hmp.fr F2 (fun e => hg.2.1 e.symm)).fr F4 (fun e => HT.out.ap1 e.symm)).fr F5 (fun e => hDm e.symm)
        · have hlm : (T.us.take m).length = m := by rw [List.length_take, HX.out.2.1]; omega
          have hgf := F5.heap (F4.heap hg2 (fun e => hg.2.2.1 e)) (fun e => hDg e.symm)
          rw [hlm]
          refine ⟨by rw [List.length_map, hlm]; omega, .inr ⟨g, c, cur2, rfl, Nat.zero_le _, hgf, by omega, hcm, by omega, ?_⟩⟩
          rw [Nat.mul_one, ht2]
          have := congrArg (List.take m) hct
          rw [List.take_take, Nat.min_eq_left (by omega)] at this
          rw [this, List.map_take]
      have hmc : m ≤ c := by omega
      have hDt : D ≠ T.t := by omega
      have hK3 : (W2.setCell ⟨T.t, 2, none⟩ (.slice (some ⟨g, 0, none⟩) m c)).heap[D]? = some (.deferred (some [])) := (Fr.set (w := W2) (g := T.t)).heap hKd hDt
      have e2L : n - m = us2.length := hL
      clear hWr2 hg2 hz2 ht2 hcg hcm hcz hct hWg hWr hTu hI hvl hvo hvs hW2
      gi_wp2
      refine ⟨by simp, .inl ⟨_, _, rfl, run_takeDeferred hK3, ?_⟩⟩
      refine ⟨.int .i64 0, ?_, rfl, HEnd.out⟩
      simp [results, Tryz.results64]
    case stop =>
      rintro D cc pre W hD _ hF
      exact hF.elim
  · obtain rfl : m = n := by omega
    have hcl : ∀ (a' : Option Addr) (c' : Nat) (W : World) ty, (Builtin.clear_ #[114] ty #[.slice a' 0 c']).run Tryz.prog W = .ok (.tuple #[]) W := fun a' c' W ty => by
      cases a' <;> simp [Builtin.clear_, run_underlying Tryz.underlying114]
    have hmb : T.mb < w.heap.size := HT.out.map.lt
    have hbt : T.t < w.heap.size := HT.out.lt (.inl (.inl rfl))
    by_cases hcm : c = m
    · subst hcm
      refine callsIn_of_wp_marks Tryz.func64 rfl trivial ?_ rfl
      simp only [Tryz.ntmps64, List.size_toArray, List.length_cons, List.length_nil, Nat.reduceAdd, Nat.reduceSub, Array.replicate_succ, Array.replicate_zero, List.push_toArray, List.append_toArray, List.nil_append, List.cons_append]
      gi_wp2_with (gi_at_call 103; refine (cB _ _ _ _).mono ?_; rintro e w' ⟨rfl, rfl⟩)
      obtain ⟨w1, hw1⟩ : ∃ w1, w.alloc (.cells #[.slice a 0 0] 114) = w1 := ⟨_, rfl⟩
      have hb1 : Below w.heap.size w w1 := by rw [← hw1]; exact (Below.refl _ w).alloc (Nat.le_refl _) _
      have hs1 : w1.heap.size = w.heap.size + 1 := by rw [← hw1]; simp
      have hbs : w1.cell? ⟨w.heap.size, 0, none⟩ = some (.slice a 0 0) := by rw [← hw1]; simp
      rw [hw1]
      have HX1 : Hid (TxAt w1 T) := HT.out.on hb1
      refine wpIn_rangeFunc_ownG rfl (by omega) (gf := 141) (lb := #[.pointer (some ⟨w.heap.size, 0, none⟩)]) rfl trivial (enters_of Tryz.func141 (by kernel_rfl) rfl)
        (back_stops Fence.wide 5 trivial rfl (by omega) w.heap.size w1.heap.size T.mb 0 0 a (fun x => x.elim0) (by omega) w1 (by omega) (by omega) (Nat.le_refl _) hbs (.inl rfl)) KpM.trans (KpM.put (Nat.le_refl _)) (Below.refl _ _) (fun x => x.elim0)
        (BkI (fun x : Fin 0 => x.elim0) w1 T) (fun _ _ _ => False) (BkI.own _ w1 T (by omega)) (fun _ _ _ _ _ hs _ _ => hs.elim) ⟨HX1.out.map, Fr.refl _ _⟩ (fun x => x.elim0) ?assign ?body ?done ?stop
      case assign => exact fun l x => x.elim0
      case body => exact fun l pre x => x.elim0
      case stop =>
        rintro D cc pre W hD _ hF
        exact hF.elim
      case done =>
        rintro D xs W hD rfl hI hK
        have hWr : W.heap[T.t]? = some (.cells T.cells 116 (0, 0)) := hI.fr.heap HX1.out.row (fun e => by
          rcases e with e | e
          · exact HX1.out.ap1 e
          · have e : w1.heap.size ≤ T.t := e; omega)
        have hTu : T.cells = #[.pointer (some ⟨T.d, 0, none⟩), .map (some T.mb), .slice a c c, .bool false] := by unfold Tx.cells; rw [HUv.out]
        rw [hTu] at hWr
        have e2 : W.cell? ⟨T.t, 2, none⟩ = some (.slice a c c) := by rw [cell_of_row _ _ _ _ _ _ hWr]; rfl
        have f3 : W.frozen? ⟨T.t, 2, none⟩ = false := frozen_of_row _ _ _ _ _ hWr
        have hDt : D ≠ T.t := by omega
        have hDm : D ≠ T.mb := by omega
        have hK3 : (W.setCell ⟨T.t, 2, none⟩ (.slice a c c)).heap[D]? = some (.deferred (some [])) := (Fr.set (w := W) (g := T.t)).heap hK hDt
        have HEnd : Hid (∃ T', TxAt ((W.setCell ⟨T.t, 2, none⟩ (.slice a c c)).putObj D (.deferred none)) T' ∧ TMv w T ((W.setCell ⟨T.t, 2, none⟩ (.slice a c c)).putObj D (.deferred none)) T' ∧ T'.c = undo T.c (T.us.drop c) ∧ T'.us = T.us.take c) := by
          have F4 : Fr (fun k => k = T.t) W (W.setCell ⟨T.t, 2, none⟩ (.slice a c c)) := Fr.set
          have F5 : Fr (fun k => k = D) (W.setCell ⟨T.t, 2, none⟩ (.slice a c c)) ((W.setCell ⟨T.t, 2, none⟩ (.slice a c c)).putObj D (.deferred none)) := fr_putObj _ _ _
          refine back_same (v := .slice a c c) HT.out HX.out.2.1 HUv.out ?_ ?_ ?_
          · exact (((below_fr hb1 _).trans hI.fr (fun k hk => hk.elim (fun e => .inl (.inr (.inl e))) (fun e => .inr (by omega)))).trans F4 (fun k hk => .inl (.inl hk))).trans F5 (fun k hk => .inr (by omega))
          · refine F5.heap ?_ (fun e => hDt e.symm)
            have := heap_setCell_same W T.t 2 _ _ (.slice a c c) hWr
            exact this
          · exact (hI.map.fr F4 (fun e => HT.out.ap1 e.symm)).fr F5 (fun e => hDm e.symm)
        clear hWr hTu hI
        gi_wp2
        refine ⟨by simp, .inl ⟨_, _, rfl, run_takeDeferred hK3, ?_⟩⟩
        refine ⟨.int .i64 0, ?_, rfl, HEnd.out⟩
        simp [results, Tryz.results64]
    · refine callsIn_of_wp_marks Tryz.func64 rfl trivial ?_ rfl
      simp only [Tryz.ntmps64, List.size_toArray, List.length_cons, List.length_nil, Nat.reduceAdd, Nat.reduceSub, Array.replicate_succ, Array.replicate_zero, List.push_toArray, List.append_toArray, List.nil_append, List.cons_append]
      gi_wp2_with (gi_at_call 103; refine (cB _ _ _ _).mono ?_; rintro e w' ⟨rfl, rfl⟩)
      obtain ⟨w1, hw1⟩ : ∃ w1, w.alloc (.cells #[.slice (Option.map (fun x => x.add m) a) 0 (c - m)] 114) = w1 := ⟨_, rfl⟩
      have hb1 : Below w.heap.size w w1 := by rw [← hw1]; exact (Below.refl _ w).alloc (Nat.le_refl _) _
      have hs1 : w1.heap.size = w.heap.size + 1 := by rw [← hw1]; simp
      have hbs : w1.cell? ⟨w.heap.size, 0, none⟩ = some (.slice (Option.map (fun x => x.add m) a) 0 (c - m)) := by rw [← hw1]; simp
      rw [hw1]
      have HX1 : Hid (TxAt w1 T) := HT.out.on hb1
      refine wpIn_rangeFunc_ownG rfl (by omega) (gf := 141) (lb := #[.pointer (some ⟨w.heap.size, 0, none⟩)]) rfl trivial (enters_of Tryz.func141 (by kernel_rfl) rfl)
        (back_stops Fence.wide 5 trivial rfl (by omega) w.heap.size w1.heap.size T.mb 0 (c - m) (Option.map (fun x => x.add m) a) (fun x => x.elim0) (by omega) w1 (by omega) (by omega) (Nat.le_refl _) hbs (.inl rfl)) KpM.trans (KpM.put (Nat.le_refl _)) (Below.refl _ _) (fun x => x.elim0)
        (BkI (fun x : Fin 0 => x.elim0) w1 T) (fun _ _ _ => False) (BkI.own _ w1 T (by omega)) (fun _ _ _ _ _ hs _ _ => hs.elim) ⟨HX1.out.map, Fr.refl _ _⟩ (fun x => x.elim0) ?assign ?body ?done ?stop
      case assign => exact fun l x => x.elim0
      case body => exact fun l pre x => x.elim0
      case stop =>
        rintro D cc pre W hD _ hF
        exact hF.elim
      case done =>
        rintro D xs W hD rfl hI hK
        have hWr : W.heap[T.t]? = some (.cells T.cells 116 (0, 0)) := hI.fr.heap HX1.out.row (fun e => by
          rcases e with e | e
          · exact HX1.out.ap1 e
          · have e : w1.heap.size ≤ T.t := e; omega)
        have hTu : T.cells = #[.pointer (some ⟨T.d, 0, none⟩), .map (some T.mb), .slice a m c, .bool false] := by unfold Tx.cells; rw [HUv.out]
        rw [hTu] at hWr
        have e2 : W.cell? ⟨T.t, 2, none⟩ = some (.slice a m c) := by rw [cell_of_row _ _ _ _ _ _ hWr]; rfl
        have f3 : W.frozen? ⟨T.t, 2, none⟩ = false := frozen_of_row _ _ _ _ _ hWr
        have hDt : D ≠ T.t := by omega
        have hDm : D ≠ T.mb := by omega
        have hK3 : (W.setCell ⟨T.t, 2, none⟩ (.slice a m c)).heap[D]? = some (.deferred (some [])) := (Fr.set (w := W) (g := T.t)).heap hK hDt
        have HEnd : Hid (∃ T', TxAt ((W.setCell ⟨T.t, 2, none⟩ (.slice a m c)).putObj D (.deferred none)) T' ∧ TMv w T ((W.setCell ⟨T.t, 2, none⟩ (.slice a m c)).putObj D (.deferred none)) T' ∧ T'.c = undo T.c (T.us.drop m) ∧ T'.us = T.us.take m) := by
          have F4 : Fr (fun k => k = T.t) W (W.setCell ⟨T.t, 2, none⟩ (.slice a m c)) := Fr.set
          have F5 : Fr (fun k => k = D) (W.setCell ⟨T.t, 2, none⟩ (.slice a m c)) ((W.setCell ⟨T.t, 2, none⟩ (.slice a m c)).putObj D (.deferred none)) := fr_putObj _ _ _
          refine back_same (v := .slice a m c) HT.out HX.out.2.1 HUv.out ?_ ?_ ?_
          · exact (((below_fr hb1 _).trans hI.fr (fun k hk => hk.elim (fun e => .inl (.inr (.inl e))) (fun e => .inr (by omega)))).trans F4 (fun k hk => .inl (.inl hk))).trans F5 (fun k hk => .inr (by omega))
          · refine F5.heap ?_ (fun e => hDt e.symm)
            have := heap_setCell_same W T.t 2 _ _ (.slice a m c) hWr
            exact this
          · exact (hI.map.fr F4 (fun e => HT.out.ap1 e.symm)).fr F5 (fun e => hDm e.symm)
        clear hWr hTu hI
        gi_wp2
        refine ⟨by simp, .inl ⟨_, _, rfl, run_takeDeferred hK3, ?_⟩⟩
        refine ⟨.int .i64 0, ?_, rfl, HEnd.out⟩
        simp [results, Tryz.results64]
end Go.Proofs.YtflienghgobmoaaGreatDoor

namespace Go.Proofs.YtflienghgobmoaaGreatDoor
open Go.RowKit Go.Maps Rec

set_option maxRecDepth 100000 in
set_option maxHeartbeats 4000000 in
/-- a Write of a block that may not be -/
theorem twrite_blk (w : World) (T : Tx) (D : Dk) (h : TxAt w T) (hD : Disk w D) (hd : D.d = T.d) (hn : D.nb = T.nb) (i : Int) (hi : i < 98 ∨ (T.nb : Int) ≤ i) (v : Value) :
    Calls Tryz.prog 34 #[.pointer (some ⟨T.t, 0, none⟩), .int .i64 i, v] w fun e w' => e = .returned (.int .i64 31) ∧ Below w.heap.size w w' := by
  have HB0 : Hid (Below w.heap.size w ((w.alloc (.cells #[.pointer (some ⟨T.t, 0, none⟩)] 39)).alloc (.cells #[.int .i64 i] 3))) := ((Below.refl _ w).alloc (Nat.le_refl _) _).alloc (by simp) _
  have HMT : Hid (∀ wx, Below w.heap.size w wx → Calls Tryz.prog 77 #[.pointer (some ⟨T.t, 0, none⟩), .int .i64 i, .int .i64 98] wx fun e w' => e = .returned (.int .i64 31) ∧ wx = w') := fun wx hbx => by
    have := mayTouch_any wx T D (h.on hbx) (hD.on hbx) hd hn i 98
    rw [show touchT T.nb i 98 = 31 from by unfold touchT; rw [if_pos hi]] at this
    exact this
  clear h hD hd hn hi
  go_enter Tryz.func34, Tryz.ntmps34
  go_wp2_with (go_at_call 77; refine (HMT.out _ HB0.out).mono ?_; rintro e w' ⟨rfl, rfl⟩)
  go_ret
  exact ⟨rfl, HB0.out⟩
set_option maxRecDepth 100000 in
set_option maxHeartbeats 4000000 in
/-- .. of a block too many -/
theorem twrite_big (w : World) (T : Tx) (D : Dk) (h : TxAt w T) (hD : Disk w D) (hd : D.d = T.d) (hn : D.nb = T.nb) (i : Nat) (h0 : 98 ≤ i) (h1 : i < T.nb) (a : Option Addr) (c : Nat) (hci : T.c i = none) (h96 : (lst T.c T.nb).length = 96) :
    Calls Tryz.prog 34 #[.pointer (some ⟨T.t, 0, none⟩), .int .i64 (i : Int), .slice a 512 c] w fun e w' => e = .returned (.int .i64 60) ∧ Below w.heap.size w w' := by
  have HB0 : Hid (Below w.heap.size w ((w.alloc (.cells #[.pointer (some ⟨T.t, 0, none⟩)] 39)).alloc (.cells #[.int .i64 (i : Int)] 3))) := ((Below.refl _ w).alloc (Nat.le_refl _) _).alloc (by simp) _
  have HMT : Hid (∀ wx, Below w.heap.size w wx → Calls Tryz.prog 77 #[.pointer (some ⟨T.t, 0, none⟩), .int .i64 (i : Int), .int .i64 98] wx fun e w' => e = .returned (.int .i64 0) ∧ wx = w') := fun wx hbx => by
    have := mayTouch_any wx T D (h.on hbx) (hD.on hbx) hd hn (i : Int) 98
    rw [show touchT T.nb (i : Int) 98 = 0 from touchT_ok (first := 98) h0 h1] at this
    exact this
  have HT : Hid (TxAt w T) := h
  have hi16 : i ≤ 16384 := by have := h.n16; omega
  have HC : Hid (T.c i = none ∧ (lst T.c T.nb).length = 96) := ⟨hci, h96⟩
  clear h hD hd hn hci h96 h0 h1
  go_enter Tryz.func34, Tryz.ntmps34
  go_upto_region 6 with (go_at_call 77; refine (HMT.out _ HB0.out).mono ?_; rintro e w' ⟨rfl, rfl⟩)
  obtain ⟨wa, hwa⟩ : ∃ wa, (w.alloc (.cells #[.pointer (some ⟨T.t, 0, none⟩)] 39)).alloc (.cells #[.int .i64 (i : Int)] 3) = wa := ⟨_, rfl⟩
  have HBa : Hid (Below w.heap.size w wa) := by rw [← hwa]; exact HB0.out
  have hca : wa.cell? ⟨w.heap.size, 0, none⟩ = some (.pointer (some ⟨T.t, 0, none⟩)) := by rw [← hwa]; simp
  have hcb : wa.cell? ⟨w.heap.size + 1, 0, none⟩ = some (.int .i64 (i : Int)) := by rw [← hwa]; simp
  have hc1 : wa.cell? ⟨T.t, 1, none⟩ = some (.map (some T.mb)) := (HT.out.on HBa.out).cell 1
  have hs2 : wa.heap.size = w.heap.size + 2 := by rw [← hwa]; simp
  have HTa : Hid (TxAt wa T) := HT.out.on HBa.out
  rw [hwa]
  clear hwa HB0 HMT
  have hlk0 : ∀ wx, Below wa.heap.size wa wx → (Instr.lookup 113 (.map (some T.mb)) (.int .i64 (i : Int)) true).run Tryz.prog wx = .ok (.tuple #[.slice none 0 0, .bool false]) wx := fun wx hb => by
    have := (HTa.out.map.on hb).look HTa.out.ok i hi16
    rw [HC.out.1] at this
    exact this
  have hlk := hlk0 wa.drew (Below.refl _ wa).drew
  have hlkA := hlk0 (wa.alloc (.cells #[.slice none 0 0] 22)).drew ((Below.refl _ wa).alloc (Nat.le_refl _) _).drew
  have hlkB := hlk0 (wa.alloc (.cells #[.bool false] 4)).drew ((Below.refl _ wa).alloc (Nat.le_refl _) _).drew
  have hlkAB := hlk0 ((wa.alloc (.cells #[.slice none 0 0] 22)).alloc (.cells #[.bool false] 4)).drew (((Below.refl _ wa).alloc (Nat.le_refl _) _).alloc (by simp) _).drew
  have hlkBA := hlk0 ((wa.alloc (.cells #[.bool false] 4)).alloc (.cells #[.slice none 0 0] 22)).drew (((Below.refl _ wa).alloc (Nat.le_refl _) _).alloc (by simp) _).drew
  have hl1 : w.heap.size < wa.heap.size := by omega
  have hl2 : w.heap.size + 1 < wa.heap.size := by omega
  have hl3 : T.t < wa.heap.size := HTa.out.lt (.inl (.inl rfl))
  clear hlk0 hs2
  go_cut [8, 9] (fun s8 s9 wx => ∃ bb bw : Nat, s8 = .pointer (some ⟨bb, 0, none⟩) ∧ s9 = .pointer (some ⟨bw, 0, none⟩) ∧ Bx wa wx bb bw (.slice none 0 0) false)
  case first =>
    go_region
    all_goals
      go_wp2
      go_meet
      case rel => exact ⟨_, _, rfl, rfl, by first | exact bx_ab _ _ _ | exact bx_ba _ _ _⟩
  case rest =>
  obtain ⟨bb, bw, rfl, rfl, hbx⟩ := hcut
  have HX2 : Hid (Bx wa wc bb bw (.slice none 0 0) false) := hbx
  have HTc : Hid (TxAt wc T) := HTa.out.on hbx.bel
  have cw : wc.cell? ⟨bw, 0, none⟩ = some (.bool false) := by rw [cell_of_row _ _ _ _ _ _ hbx.w]; rfl
  have ca2 : wc.cell? ⟨w.heap.size, 0, none⟩ = some (.pointer (some ⟨T.t, 0, none⟩)) := (hbx.bel.cell hl1).trans hca
  have c12 : wc.cell? ⟨T.t, 1, none⟩ = some (.map (some T.mb)) := HTc.out.cell 1
  clear hlk hlkA hlkB hlkAB hlkBA hca hcb hc1 hbx
  have hlen : ∀ ty, (Builtin.len_ #[113] ty #[.map (some T.mb)]).run Tryz.prog wc = .ok (.int .i64 96) wc := fun ty => by
    have := HTc.out.map.len ty
    rw [HC.out.2] at this
    exact this
  go_upto_region 7 with (fail)
  go_wp2
  go_ret
  exact ⟨rfl, HBa.out.trans (HX2.out.bel.mono HBa.out.size)⟩
end Go.Proofs.YtflienghgobmoaaGreatDoor

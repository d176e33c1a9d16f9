import Derived.Test.YtipbflmonhlnjaaAPut
namespace Go.Proofs.Ytipbflmonhlnjaa
open Go.RowKit Rec

theorem neq_nil (w : World) : (binOp .neq 1 .nilFunc .nilFunc).run Try.prog w = .ok (.bool false) w := by
  have h : ∀ d : Nat, (Op.equalIn (d + 1) 1 .nilFunc .nilFunc).run Try.prog w = .ok true w := fun d => by
    simp [Op.equalIn, run_underlying Try.underlying1]
  simp only [binOp]
  simp [Op.equal, Op.maxDepth, h 9999]
theorem neq_fn (w : World) (f : Fn) (a b : Array Value) : (binOp .neq 1 (.func f a b) .nilFunc).run Try.prog w = .ok (.bool true) w := by
  have h : ∀ d : Nat, (Op.equalIn (d + 1) 1 (.func f a b) .nilFunc).run Try.prog w = .ok false w := fun d => by
    simp [Op.equalIn, run_underlying Try.underlying1]
  simp only [binOp]
  simp [Op.equal, Op.maxDepth, h 9999]
set_option maxRecDepth 100000 in
set_option maxHeartbeats 800000 in
theorem step_nil (w : World) (D : Dk) (h : Disk w D) (hg : D.at_ ≠ 1) :
    Calls Try.prog 52 #[.pointer (some ⟨D.d, 0, none⟩), .nilFunc] w fun e w' => e = .returned (.int .i64 0) ∧ Disk w' D.ticked ∧ Mv w D w' D.ticked := by
  have C6 : w.cell? ⟨D.d, 6, none⟩ = some (.int .i64 D.at_) := h.cell 6
  have F6 := h.frozen 6
  have h9 := h.at1
  unfold Dk.ticked
  by_cases hp : 0 < D.at_
  · rw [if_pos hp]
    have h2 : 1 < D.at_ := by omega
    obtain ⟨h8, m8⟩ := h.put1 (D' := { D with at_ := D.at_ - 1 }) 6 (.int .i64 (D.at_ - 1)) rfl rfl h.dn h.wrs h.fls (by show D.at_ - 1 ≤ _; omega)
    have HD : Hid (Disk (w.setCell ⟨D.d, 6, none⟩ (.int .i64 (D.at_ - 1))) { D with at_ := D.at_ - 1 } ∧ Mv w D (w.setCell ⟨D.d, 6, none⟩ (.int .i64 (D.at_ - 1))) { D with at_ := D.at_ - 1 }) := ⟨h8, m8⟩
    clear h h8 m8
    have E1 := neq_nil
    go_enter Try.func52, Try.ntmps52
    go_wp2
    go_ret
    exact ⟨rfl, HD.out⟩
  · rw [if_neg hp]
    have HD : Hid (Disk w D) := h
    clear h
    have E1 := neq_nil
    go_enter Try.func52, Try.ntmps52
    go_wp2
    go_ret
    exact ⟨rfl, HD.out, Mv.refl _ _⟩
/-- an act of a flush -/
def flushAc : Ac := ⟨2, 0, .slice none 0 0, []⟩
set_option maxRecDepth 100000 in
set_option maxHeartbeats 1600000 in
theorem flush1_any (w : World) (D : Dk) (h : Disk w D) (c : Nat) (hc : w.cell? ⟨c, 0, none⟩ = some (.pointer (some ⟨D.d, 0, none⟩))) (hcn : ¬ D.has c) (htl : D.tap.length + 1 ≤ 3518437208800) :
    Calls Try.prog 55 #[.pointer (some ⟨c, 0, none⟩)] w fun e w' => e = .returned (.tuple #[]) ∧ ∃ gt ct, Disk w' ((D.act gt ct flushAc).settled (fun _ => true)) ∧ Mv w D w' ((D.act gt ct flushAc).settled (fun _ => true)) := by
  obtain ⟨ta, tc, htv, _⟩ := owns_slice h.tap
  have C3 : w.cell? ⟨D.d, 3, none⟩ = some (.slice ta D.tap.length tc) := by rw [← htv]; exact h.cell 3
  have HD : Hid (Disk w D) := h
  have HT : Hid (D.tv = .slice ta D.tap.length tc) := htv
  have HC : Hid (w.cell? ⟨c, 0, none⟩ = some (.pointer (some ⟨D.d, 0, none⟩)) ∧ ¬ D.has c) := ⟨hc, hcn⟩
  clear h htv hcn
  obtain ⟨i1, j1, j2, j3, j4⟩ := info_parts infoAct
  have HA : Hid (Below w.heap.size w ((w.alloc (.cells #[.int .i64 2, .int .i64 0, .slice none 0 0] 86)).drew)) := ((Below.refl _ _).alloc (Nat.le_refl _) _).drew
  have HR : (w.alloc (.cells #[.int .i64 2, .int .i64 0, .slice none 0 0] 86)).drew.heap[w.heap.size]? = _ := heap_alloc_new w (.cells #[.int .i64 2, .int .i64 0, .slice none 0 0] 86)
  have C3a : (w.alloc (.cells #[.int .i64 2, .int .i64 0, .slice none 0 0] 86)).cell? ⟨D.d, 3, none⟩ = some (.slice ta D.tap.length tc) := (fr_alloc (fun _ => False) w _).cell C3 (fun e => e)
  have Cca : (w.alloc (.cells #[.int .i64 2, .int .i64 0, .slice none 0 0] 86)).cell? ⟨c, 0, none⟩ = some (.pointer (some ⟨D.d, 0, none⟩)) := (fr_alloc (fun _ => False) w _).cell hc (fun e => e)
  have HN : Hid (∀ j u, (Ac.cells flushAc)[j]? = some u → ((w.alloc (.cells #[.int .i64 2, .int .i64 0, .slice none 0 0] 86)).drew).cell? ((⟨w.heap.size, 0, none⟩ : Addr).add j) = some u) := news_of HR _ rfl
  have HW : Hid (((w.alloc (.cells #[.int .i64 2, .int .i64 0, .slice none 0 0] 86)).drew).ownsRow 0 86 3 (.slice ta D.tap.length tc) D.tap.length (D.tap.flatMap Ac.cells)) := by
    have e := (HD.out.on HA.out).tap
    rw [HT.out] at e; exact e
  clear HR
  go_enter Try.func55, Try.ntmps55
  go_wp2
  go_region_law (refine step_own rfl (.tmp 5) (.tmp 7) 51 rfl 86 i1 _ 3 40 Try.underlying51 j1 j2 j3 j4 rfl (by decide) (.slice ta D.tap.length tc) D.tap.length (D.tap.flatMap Ac.cells) (by simp [Act.eval]) HW.out ⟨w.heap.size, 0, none⟩ 1 1 (Ac.cells flushAc) (by simp [Act.eval]) (by decide) rfl HN.out (by intro u hu; simp [Ac.cells, flushAc] at hu; rcases hu with rfl | rfl | rfl <;> rfl) (by unfold maxLen; omega) (by omega) ?_; intro gt ct w1 ho hf hgt; rw [← HT.out] at hf hgt; have HQ : Hid (Disk (w1.setCell ⟨D.d, 3, none⟩ (.slice (some ⟨gt, 0, none⟩) (D.tap.length + 1) ct)) (D.act gt ct flushAc) ∧ Mv w D (w1.setCell ⟨D.d, 3, none⟩ (.slice (some ⟨gt, 0, none⟩) (D.tap.length + 1) ct)) (D.act gt ct flushAc)) := HD.out.taped HA.out (.inr ⟨rfl, rfl, rfl, rfl⟩) ho hf hgt htl; have r1 := hf.heap (HD.out.on HA.out).row (fun e => (HD.out.ap.t _ e).1 rfl); have c3 : w1.cell? ⟨D.d, 3, none⟩ = some D.tv := cell_of_row _ _ _ _ _ _ r1; have f3 := frozen_of_row _ _ 3 _ _ r1; have cc : w1.cell? ⟨c, 0, none⟩ = some (.pointer (some ⟨D.d, 0, none⟩)) := hf.cell (by rw [HA.out.cell (p := ⟨c, 0, none⟩) (block_lt_of_cell HC.out.1)]; exact HC.out.1) (fun e => HC.out.2 (.inr (.inr (.inr (.inr e))))); clear r1 ho hf hgt)
  all_goals
    clear c3 f3 C3 hc C3a Cca cc
    generalize w1.setCell ⟨D.d, 3, none⟩ (.slice (some ⟨gt, 0, none⟩) (D.tap.length + 1) ct) = w2 at *
    have hc : w2.cell? ⟨c, 0, none⟩ = some (.pointer (some ⟨D.d, 0, none⟩)) := HQ.out.2.fr.cell HC.out.1 HC.out.2
    go_wp2_with (go_at_call 56; refine (settle_all _ (D.act gt ct flushAc) HQ.out.1).mono ?_; rintro e w3 ⟨rfl, hd, hf⟩; have HZ : Hid (Disk w3 ((D.act gt ct flushAc).settled (fun _ => true)) ∧ Fr (D.act gt ct flushAc).has w2 w3) := ⟨hd, hf⟩; clear hd hf)
    go_end0
    exact ⟨rfl, gt, ct, HZ.out.1, HQ.out.2.trans ⟨HZ.out.2, fun k hk => .inl ((settled_has _ _ k).1 hk), rfl, rfl⟩⟩
set_option maxRecDepth 100000 in
set_option maxHeartbeats 1600000 in
theorem step_flush (w : World) (D : Dk) (h : Disk w D) (hg : D.at_ ≠ 1) (c : Nat) (hc : w.cell? ⟨c, 0, none⟩ = some (.pointer (some ⟨D.d, 0, none⟩))) (hcn : ¬ D.has c) (htl : D.tap.length + 1 ≤ 3518437208800) :
    Calls Try.prog 52 #[.pointer (some ⟨D.d, 0, none⟩), .func (.func 55) #[] #[.pointer (some ⟨c, 0, none⟩)]] w fun e w' => e = .returned (.int .i64 0) ∧ ∃ gt ct, Disk w' ((D.ticked.act gt ct flushAc).settled (fun _ => true)) ∧ Mv w D w' ((D.ticked.act gt ct flushAc).settled (fun _ => true)) := by
  have C6 : w.cell? ⟨D.d, 6, none⟩ = some (.int .i64 D.at_) := h.cell 6
  have F6 := h.frozen 6
  have h9 := h.at1
  unfold Dk.ticked
  by_cases hp : 0 < D.at_
  · rw [if_pos hp]
    have h2 : 1 < D.at_ := by omega
    obtain ⟨h8, m8⟩ := h.put1 (D' := { D with at_ := D.at_ - 1 }) 6 (.int .i64 (D.at_ - 1)) rfl rfl h.dn h.wrs h.fls (by show D.at_ - 1 ≤ _; omega)
    have HD : Hid (Disk (w.setCell ⟨D.d, 6, none⟩ (.int .i64 (D.at_ - 1))) { D with at_ := D.at_ - 1 } ∧ Mv w D (w.setCell ⟨D.d, 6, none⟩ (.int .i64 (D.at_ - 1))) { D with at_ := D.at_ - 1 }) := ⟨h8, m8⟩
    have HC : Hid ((w.setCell ⟨D.d, 6, none⟩ (.int .i64 (D.at_ - 1))).cell? ⟨c, 0, none⟩ = some (.pointer (some ⟨D.d, 0, none⟩)) ∧ ¬ D.has c) := ⟨m8.fr.cell hc hcn, hcn⟩
    clear h h8 m8 hc hcn
    have E1 := neq_fn
    go_enter Try.func52, Try.ntmps52
    go_wp2_with (go_at_call 55; refine (flush1_any _ { D with at_ := D.at_ - 1 } HD.out.1 c HC.out.1 HC.out.2 htl).mono ?_; rintro e w3 ⟨rfl, gt, ct, hd, hf⟩; have HZ : Hid (Disk w3 ((({ D with at_ := D.at_ - 1 } : Dk).act gt ct flushAc).settled (fun _ => true)) ∧ Mv w D w3 ((({ D with at_ := D.at_ - 1 } : Dk).act gt ct flushAc).settled (fun _ => true))) := ⟨hd, HD.out.2.trans hf⟩; clear hd hf)
    go_ret
    exact ⟨rfl, gt, ct, HZ.out⟩
  · rw [if_neg hp]
    have HD : Hid (Disk w D) := h
    have HC : Hid (w.cell? ⟨c, 0, none⟩ = some (.pointer (some ⟨D.d, 0, none⟩)) ∧ ¬ D.has c) := ⟨hc, hcn⟩
    clear h hc hcn
    have E1 := neq_fn
    go_enter Try.func52, Try.ntmps52
    go_wp2_with (go_at_call 55; refine (flush1_any _ D HD.out c HC.out.1 HC.out.2 htl).mono ?_; rintro e w3 ⟨rfl, gt, ct, hd, hf⟩; have HZ : Hid (Disk w3 ((D.act gt ct flushAc).settled (fun _ => true)) ∧ Mv w D w3 ((D.act gt ct flushAc).settled (fun _ => true))) := ⟨hd, hf⟩; clear hd hf)
    go_ret
    exact ⟨rfl, gt, ct, HZ.out⟩
end Go.Proofs.Ytipbflmonhlnjaa

namespace Go.Proofs.Ytipbflmonhlnjaa
open Go.RowKit Rec

/-- a disk, wherever it lies -/
structure AD where
  nb : Nat
  las : List Int
  P : List (Nat × List Int)
  T : List (Int × Int × List Int)
  wr : Nat
  fl : Nat
  at_ : Int
  keep : List Bool
  down : Bool
def AD.f (a : AD) (k : Nat) : Nat := (a.P.getD k (0, [])).1
def AD.X (a : AD) (k : Nat) : List Int := (a.P.getD k (0, [])).2
def AD.full (a : AD) : List Int := lay (fun _ => true) a.f a.X a.las a.P.length
def AD.settle (a : AD) (kp : Nat → Bool) : AD := { a with las := lay kp a.f a.X a.las a.P.length, P := [] }
def AD.cut (a : AD) (kp : Nat → Bool) : AD := { a.settle kp with down := true }
def AD.tick (a : AD) : AD := if 0 < a.at_ then { a with at_ := a.at_ - 1 } else a
theorem tick_eq (a : AD) : a.tick = { a with at_ := if 0 < a.at_ then a.at_ - 1 else a.at_ } := by
  unfold AD.tick; split <;> rfl
def AD.write (a : AD) (i : Nat) (x : List Int) : AD :=
  let b : AD := { a with P := a.P ++ [(i, x)], T := a.T ++ [(1, (i : Int), x)], wr := a.wr + 1 }
  if a.at_ = 1 then ({ b with at_ := 0 } : AD).cut (kpOf a.keep) else b.tick
def AD.flush (a : AD) : AD :=
  let b : AD := { a with fl := a.fl + 1 }
  if a.at_ = 1 then ({ b with at_ := 0 } : AD).cut (kpOf a.keep) else ({ b.tick with T := a.T ++ [(2, 0, [])] } : AD).settle (fun _ => true)
/-- what a step answers -/
def AD.stepE (a : AD) : Int := if a.at_ = 1 then 30 else 0
def AD.touchE (a : AD) (i : Int) : Int := if a.down then 30 else if 0 ≤ i ∧ i < a.nb then 0 else 31
def Dk.abs (D : Dk) : AD := ⟨D.nb, D.las, D.pen.map (fun p => (p.b, p.x)), D.tap.map (fun a => (a.kind, a.b, a.x)), D.wr, D.fl, D.at_, D.keep, D.down⟩
theorem abs_f (D : Dk) : D.abs.f = D.f := by
  funext k
  simp only [AD.f, Dk.abs, Dk.f, List.getD, List.getElem?_map]
  cases D.pen[k]? <;> rfl
theorem abs_X (D : Dk) : D.abs.X = D.X := by
  funext k
  simp only [AD.X, Dk.abs, Dk.X, List.getD, List.getElem?_map]
  cases D.pen[k]? <;> rfl
theorem abs_len (D : Dk) : D.abs.P.length = D.pen.length := by simp [Dk.abs]
theorem abs_full (D : Dk) : D.full = D.abs.full := by rw [Dk.full, AD.full, abs_f, abs_X, abs_len]; rfl
theorem abs_settle (D : Dk) (kp : Nat → Bool) : (D.settled kp).abs = D.abs.settle kp := by
  rw [AD.settle, abs_f, abs_X, abs_len]; rfl
theorem abs_cut (D : Dk) (kp : Nat → Bool) : (D.cut kp).abs = D.abs.cut kp := by
  rw [AD.cut, ← abs_settle]; rfl
theorem abs_tick (D : Dk) : D.ticked.abs = D.abs.tick := by
  unfold Dk.ticked AD.tick
  show _ = if 0 < D.at_ then _ else _
  split <;> rfl
theorem abs_act (D : Dk) (gt ct : Nat) (a : Ac) : (D.act gt ct a).abs = { D.abs with T := D.abs.T ++ [(a.kind, a.b, a.x)] } := by simp [Dk.act, Dk.abs]
theorem abs_pend (D : Dk) (gt ct : Nat) (p : It) : (D.pend gt ct p).abs = { D.abs with P := D.abs.P ++ [(p.b, p.x)] } := by simp [Dk.pend, Dk.abs]
/-- there is room for more -/
structure RoomD (a : AD) : Prop where
  p : a.P.length + 1 ≤ 3518437208800
  t : a.T.length + 1 ≤ 3518437208800
  w : a.wr + 1 ≤ 3518437208800
  f : a.fl + 1 ≤ 3518437208800
  k : a.keep.length ≤ 9223372036854775807
theorem abs_tlen (D : Dk) : D.abs.T.length = D.tap.length := by simp [Dk.abs]
/-- its rows are those that it had, and new ones -/
def Al (n : Nat) (D D' : Dk) : Prop := ∀ k, D'.all k → D.all k ∨ n ≤ k
theorem al_trans {n n' : Nat} {D D' D'' : Dk} (h : Al n D D') (h' : Al n' D' D'') (hn : n ≤ n') : Al n D D'' := fun k hk => (h' k hk).elim (h k) (fun e => .inr (Nat.le_trans hn e))
theorem al_cut (n : Nat) (D : Dk) (kp : Nat → Bool) : Al n D (({ D with at_ := 0 } : Dk).cut kp) := by
  rintro k (hk | hk | ⟨p, hp, _⟩ | hk)
  · exact .inl (.inl ((settled_has { D with at_ := 0 } kp k).1 hk))
  · exact .inl (.inr (.inl hk))
  · cases hp
  · exact .inl (.inr (.inr (.inr hk)))
theorem al_crash (n : Nat) (D : Dk) (kp : Nat → Bool) : Al n D (D.cut kp) := by
  rintro k (hk | hk | ⟨p, hp, _⟩ | hk)
  · exact .inl (.inl ((settled_has D kp k).1 hk))
  · exact .inl (.inr (.inl hk))
  · cases hp
  · exact .inl (.inr (.inr (.inr hk)))
theorem al_tick (n : Nat) (D : Dk) : Al n D D.ticked := by
  unfold Dk.ticked; split <;> exact fun k hk => .inl hk
theorem al_put {n : Nat} {D D1 : Dk} {gt ct gp cp : Nat} {a : Ac} {p : It} (e1 : D1.kv = D.kv) (e2 : D1.pen = D.pen) (e3 : D1.tap = D.tap) (hm : ∀ k, ((D1.act gt ct a).pend gp cp p).has k → D.has k ∨ n ≤ k) (ha : ∀ k, a.v.ownBlock = some k → n ≤ k) (hp : n ≤ p.g) : Al n D ((D1.act gt ct a).pend gp cp p) := by
  rintro k (hk | hk | ⟨q, hq, hk⟩ | ⟨b, hb, hk⟩)
  · exact (hm k hk).imp .inl id
  · exact .inl (.inr (.inl (e1 ▸ hk)))
  · have hq : q ∈ D1.pen ++ [p] := hq
    rw [e2] at hq
    rcases List.mem_append.1 hq with hq | hq
    · exact .inl (.inr (.inr (.inl ⟨q, hq, hk⟩)))
    · rw [List.mem_singleton] at hq; subst hq; exact .inr (hk ▸ hp)
  · have hb : b ∈ D1.tap ++ [a] := hb
    rw [e3] at hb
    rcases List.mem_append.1 hb with hb | hb
    · exact .inl (.inr (.inr (.inr ⟨b, hb, hk⟩)))
    · rw [List.mem_singleton] at hb; subst hb; exact .inr (ha k hk)
theorem al_flush {n : Nat} {D D1 : Dk} {gt ct : Nat} (e1 : D1.kv = D.kv) (e3 : D1.tap = D.tap) (hm : ∀ k, ((D1.act gt ct flushAc).settled (fun _ => true)).has k → D.has k ∨ n ≤ k) : Al n D ((D1.act gt ct flushAc).settled (fun _ => true)) := by
  rintro k (hk | hk | ⟨q, hq, hk⟩ | ⟨b, hb, hk⟩)
  · exact (hm k hk).imp .inl id
  · exact .inl (.inr (.inl (e1 ▸ hk)))
  · cases hq
  · have hb : b ∈ D1.tap ++ [flushAc] := hb
    rw [e3] at hb
    rcases List.mem_append.1 hb with hb | hb
    · exact .inl (.inr (.inr (.inr ⟨b, hb, hk⟩)))
    · rw [List.mem_singleton] at hb; subst hb; cases hk
theorem ticked_kv (D : Dk) : D.ticked.kv = D.kv := by unfold Dk.ticked; split <;> rfl
theorem ticked_tap (D : Dk) : D.ticked.tap = D.tap := by unfold Dk.ticked; split <;> rfl
set_option maxRecDepth 100000 in
set_option maxHeartbeats 800000 in
theorem write_no (w : World) (D : Dk) (h : Disk w D) (i : Int) (a : Option Addr) (n c : Nat) (ht : touchE D i ≠ 0) : Calls Try.prog 19 #[.pointer (some ⟨D.d, 0, none⟩), .int .i64 i, .slice a n c] w fun e w' => e = .returned (.int .i64 (touchE D i)) ∧ w = w' := by
  have HD : Hid (Disk w D) := h
  clear h
  have hn : (touchE D i == 0) = false := by simpa using ht
  go_enter Try.func19, Try.ntmps19
  go_wp2_with (go_at_call 50; refine (touch_any _ D HD.out i).mono ?_; rintro e w' ⟨rfl, rfl⟩)
  go_ret
  exact ⟨rfl, rfl⟩
set_option maxRecDepth 100000 in
set_option maxHeartbeats 800000 in
theorem write_size (w : World) (D : Dk) (h : Disk w D) (i : Int) (a : Option Addr) (n c : Nat) (ht : touchE D i = 0) (hn : n ≠ 512) : Calls Try.prog 19 #[.pointer (some ⟨D.d, 0, none⟩), .int .i64 i, .slice a n c] w fun e w' => e = .returned (.int .i64 32) ∧ w = w' := by
  have HD : Hid (Disk w D) := h
  have HT : Hid (touchE D i = 0) := ht
  clear h ht
  have hn2 : ¬ (n : Int) = 512 := by omega
  go_enter Try.func19, Try.ntmps19
  go_wp2_with (go_at_call 50; refine (touch_any _ D HD.out i).mono ?_; rintro e w' ⟨rfl, rfl⟩; rw [HT.out])
  go_ret
  exact ⟨rfl, rfl⟩
theorem Bytes.fr {S : Nat → Prop} {w w' : World} {p : Addr} {l : List Int} (h : Bytes w (Option.some p) l) (x : Fr S w w') (hk : ¬ S p.block) : Bytes w' (Option.some p) l := by
  refine ⟨h.len, h.wf, ?_⟩
  rcases h.at_ with e | ⟨b, off, e, hc⟩
  · exact .inl e
  · cases e
    exact .inr ⟨b, off, rfl, fun i hi => x.cell (hc i hi) hk⟩
set_option maxRecDepth 100000 in
set_option maxHeartbeats 1600000 in
theorem write_yes (w : World) (D : Dk) (h : Disk w D) (i : Nat) (p : Addr) (c : Nat) (x : List Int) (hi : i < D.nb) (hd : D.down = false) (hb : Bytes w (some p) x) (hx : x.length = 512) (hr : RoomD D.abs) (hpn : ¬ D.has p.block) :
    Calls Try.prog 19 #[.pointer (some ⟨D.d, 0, none⟩), .int .i64 i, .slice (some p) 512 c] w fun e w' => e = .returned (.int .i64 D.abs.stepE) ∧ ∃ D', Disk w' D' ∧ Mv w D w' D' ∧ Al w.heap.size D D' ∧ D'.abs = D.abs.write i x := by
  have HT : Hid (touchE D i = 0) := by unfold touchE; rw [hd, if_neg (by decide), if_pos (by omega)]; exact rfl
  have C4 : w.cell? ⟨D.d, 4, none⟩ = some (.int .i64 D.wr) := h.cell 4
  have F4 := h.frozen 4
  have hw := hr.w
  have hp1 := hr.p
  have ht1 := hr.t
  rw [abs_len] at hp1
  rw [abs_tlen] at ht1
  replace hw : D.wr + 1 ≤ 3518437208800 := hw
  obtain ⟨h8, m8⟩ := h.put1 (D' := { D with wr := D.wr + 1 }) 4 (.int .i64 ((D.wr : Int) + 1)) rfl rfl h.dn hw h.fls h.at1
  have HB : Hid (Bytes (w.setCell ⟨D.d, 4, none⟩ (.int .i64 ((D.wr : Int) + 1))) (some p) x) := hb.fr (Fr.set (g := D.d)) (fun e => hpn (.inl e))
  have H8 : Hid (Disk (w.setCell ⟨D.d, 4, none⟩ (.int .i64 ((D.wr : Int) + 1))) { D with wr := D.wr + 1 } ∧ Mv w D (w.setCell ⟨D.d, 4, none⟩ (.int .i64 ((D.wr : Int) + 1))) { D with wr := D.wr + 1 }) := ⟨h8, m8⟩
  have HD : Hid (Disk w D) := h
  have HX : Hid (x.length = 512) := hx
  clear h h8 m8 hb hx
  go_enter Try.func19, Try.ntmps19
  go_upto_region 8 with (first
    | (go_at_call 50; refine (touch_any _ D HD.out i).mono ?_; rintro e w' ⟨rfl, rfl⟩; rw [HT.out])
    | (go_at_call 47; refine (bclone_any _ p 512 c x HB.out HX.out (by omega)).mono ?_; rintro e w1 ⟨g, cap, rfl, hg, ho, hb1⟩; have HG : Hid ((w.setCell ⟨D.d, 4, none⟩ (.int .i64 ((D.wr : Int) + 1))).heap.size ≤ g ∧ OwnB w1 g cap x ∧ Below (w.setCell ⟨D.d, 4, none⟩ (.int .i64 ((D.wr : Int) + 1))).heap.size (w.setCell ⟨D.d, 4, none⟩ (.int .i64 ((D.wr : Int) + 1))) w1) := ⟨hg, ho, hb1⟩; clear hg ho hb1)
    | (go_at_call 51; refine (put_any _ { D with wr := D.wr + 1 } (H8.out.1.on HG.out.2.2) i g cap x hi HX.out HG.out.2.1 (fun e => absurd (H8.out.1.hasLt e) (Nat.not_lt.2 HG.out.1)) hd hp1 ht1).mono ?_; rintro e w2 ⟨rfl, gt, ct, gp, cp, hd2, hm2⟩; have HZ : Hid (Disk w2 ((({ D with wr := D.wr + 1 } : Dk).act gt ct ⟨1, i, .slice (some ⟨g, 0, none⟩) 512 cap, x⟩).pend gp cp ⟨i, g, cap, x⟩) ∧ Mv w D w2 ((({ D with wr := D.wr + 1 } : Dk).act gt ct ⟨1, i, .slice (some ⟨g, 0, none⟩) 512 cap, x⟩).pend gp cp ⟨i, g, cap, x⟩)) := ⟨hd2, (H8.out.2.trans (mv_on _ _ _ HG.out.2.2)).trans hm2⟩; clear hd2 hm2))
  have HL : Hid (Al w.heap.size D ((({ D with wr := D.wr + 1 } : Dk).act gt ct ⟨1, i, .slice (some ⟨g, 0, none⟩) 512 cap, x⟩).pend gp cp ⟨i, g, cap, x⟩)) := al_put rfl rfl rfl HZ.out.2.has (fun k hk => by cases hk; exact Nat.le_trans H8.out.2.fr.size HG.out.1) (Nat.le_trans H8.out.2.fr.size HG.out.1)
  clear C4 F4 HG H8 HB HD HT
  have hst : Hid (D.abs.stepE = if D.at_ = 1 then 30 else 0) := rfl
  have hwr : Hid (D.abs.write i x = if D.at_ = 1 then ({ D.abs with P := D.abs.P ++ [(i, x)], T := D.abs.T ++ [(1, (i : Int), x)], wr := D.wr + 1, at_ := 0 } : AD).cut (kpOf D.keep) else ({ D.abs with P := D.abs.P ++ [(i, x)], T := D.abs.T ++ [(1, (i : Int), x)], wr := D.wr + 1 } : AD).tick) := rfl
  by_cases hat : D.at_ = 1
  · go_wp2_with (go_at_call 52; refine (step_goes _ _ HZ.out.1 _ hat hr.k).mono ?_; rintro e w3 ⟨rfl, hd3, hm3⟩; have H3 : Hid (Disk w3 _ ∧ Mv w2 _ w3 _) := ⟨hd3, hm3⟩; clear hd3 hm3)
    go_ret
    rw [hst.out, hwr.out, if_pos hat, if_pos hat]
    refine ⟨rfl, _, H3.out.1, HZ.out.2.trans H3.out.2, al_trans HL.out (al_cut w.heap.size _ _) (Nat.le_refl _), ?_⟩
    rw [abs_cut]
    congr 1
    simp [Dk.abs, Dk.act, Dk.pend]
  · go_wp2_with (go_at_call 52; refine (step_nil _ _ HZ.out.1 hat).mono ?_; rintro e w3 ⟨rfl, hd3, hm3⟩; have H3 : Hid (Disk w3 _ ∧ Mv w2 _ w3 _) := ⟨hd3, hm3⟩; clear hd3 hm3)
    go_ret
    rw [hst.out, hwr.out, if_neg hat, if_neg hat]
    refine ⟨rfl, _, H3.out.1, HZ.out.2.trans H3.out.2, al_trans HL.out (al_tick w.heap.size _) (Nat.le_refl _), ?_⟩
    rw [abs_tick, abs_pend, abs_act]
    rfl
set_option maxRecDepth 100000 in
set_option maxHeartbeats 800000 in
theorem flush_no (w : World) (D : Dk) (h : Disk w D) (hd : D.down = true) : Calls Try.prog 21 #[.pointer (some ⟨D.d, 0, none⟩)] w fun e w' => e = .returned (.int .i64 30) ∧ Below w.heap.size w w' := by
  have C8 : w.cell? ⟨D.d, 8, none⟩ = some (.bool true) := by rw [← hd]; exact h.cell 8
  have HA : Hid (Below w.heap.size w (w.alloc (.cells #[.pointer (some ⟨D.d, 0, none⟩)] 24))) := (Below.refl _ _).alloc (Nat.le_refl _) _
  have C8' : (w.alloc (.cells #[.pointer (some ⟨D.d, 0, none⟩)] 24)).cell? ⟨D.d, 8, none⟩ = some (.bool true) := (fr_alloc (fun _ => False) w _).cell C8 (fun e => e)
  have CC : (w.alloc (.cells #[.pointer (some ⟨D.d, 0, none⟩)] 24)).cell? ⟨w.heap.size, 0, none⟩ = some (.pointer (some ⟨D.d, 0, none⟩)) := cell_of_row _ _ _ _ _ _ (heap_alloc_new _ _)
  clear h
  go_enter Try.func21, Try.ntmps21
  go_wp2
  go_ret
  exact ⟨rfl, HA.out⟩
set_option maxRecDepth 100000 in
set_option maxHeartbeats 1600000 in
theorem flush_yes (w : World) (D : Dk) (h : Disk w D) (hd : D.down = false) (hr : RoomD D.abs) :
    Calls Try.prog 21 #[.pointer (some ⟨D.d, 0, none⟩)] w fun e w' => e = .returned (.int .i64 D.abs.stepE) ∧ ∃ D', Disk w' D' ∧ Mv w D w' D' ∧ Al w.heap.size D D' ∧ D'.abs = D.abs.flush := by
  have HA : Hid (Below w.heap.size w (w.alloc (.cells #[.pointer (some ⟨D.d, 0, none⟩)] 24))) := (Below.refl _ _).alloc (Nat.le_refl _) _
  have HD0 : Hid (Disk (w.alloc (.cells #[.pointer (some ⟨D.d, 0, none⟩)] 24)) D) := h.on HA.out
  have CC : (w.alloc (.cells #[.pointer (some ⟨D.d, 0, none⟩)] 24)).cell? ⟨w.heap.size, 0, none⟩ = some (.pointer (some ⟨D.d, 0, none⟩)) := cell_of_row _ _ _ _ _ _ (heap_alloc_new _ _)
  have hcn : Hid (¬ D.has w.heap.size) := fun e => absurd (h.hasLt e) (by omega)
  have hf1 : D.fl + 1 ≤ 3518437208800 := hr.f
  have ht1 := hr.t
  rw [abs_tlen] at ht1
  go_enter Try.func21, Try.ntmps21
  go_upto_region 1 with fail
  generalize w.alloc (.cells #[.pointer (some ⟨D.d, 0, none⟩)] 24) = wa at *
  have C8 : wa.cell? ⟨D.d, 8, none⟩ = some (.bool false) := by rw [← hd]; exact HD0.out.cell 8
  have C5 : wa.cell? ⟨D.d, 5, none⟩ = some (.int .i64 D.fl) := HD0.out.cell 5
  have F5 := HD0.out.frozen 5
  obtain ⟨h8, m8⟩ := HD0.out.put1 (D' := { D with fl := D.fl + 1 }) 5 (.int .i64 ((D.fl : Int) + 1)) rfl rfl h.dn h.wrs hf1 h.at1
  have H8 : Hid (Disk (wa.setCell ⟨D.d, 5, none⟩ (.int .i64 ((D.fl : Int) + 1))) { D with fl := D.fl + 1 } ∧ Mv wa D (wa.setCell ⟨D.d, 5, none⟩ (.int .i64 ((D.fl : Int) + 1))) { D with fl := D.fl + 1 }) := ⟨h8, m8⟩
  have CC2 : (wa.setCell ⟨D.d, 5, none⟩ (.int .i64 ((D.fl : Int) + 1))).cell? ⟨w.heap.size, 0, none⟩ = some (.pointer (some ⟨D.d, 0, none⟩)) := m8.fr.cell CC hcn.out
  clear h8 m8 h
  have hst : Hid (D.abs.stepE = if D.at_ = 1 then 30 else 0) := rfl
  have hfl : Hid (D.abs.flush = if D.at_ = 1 then ({ D.abs with fl := D.fl + 1, at_ := 0 } : AD).cut (kpOf D.keep) else ({ ({ D.abs with fl := D.fl + 1 } : AD).tick with T := D.abs.T ++ [(2, 0, [])] } : AD).settle (fun _ => true)) := rfl
  by_cases hat : D.at_ = 1
  · go_wp2_with (go_at_call 52; refine (step_goes _ _ H8.out.1 _ hat hr.k).mono ?_; rintro e w3 ⟨rfl, hd3, hm3⟩; have H3 : Hid (Disk w3 _ ∧ Mv _ _ w3 _) := ⟨hd3, hm3⟩; clear hd3 hm3)
    go_ret
    rw [hst.out, hfl.out, if_pos hat, if_pos hat]
    refine ⟨rfl, _, H3.out.1, ((mv_on _ _ _ HA.out).trans H8.out.2).trans H3.out.2, al_cut w.heap.size { D with fl := D.fl + 1 } _, ?_⟩
    rw [abs_cut]
    rfl
  · go_wp2_with (go_at_call 52; refine (step_flush _ _ H8.out.1 hat _ CC2 hcn.out ht1).mono ?_; rintro e w3 ⟨rfl, gt, ct, hd3, hm3⟩; have H3 : Hid (Disk w3 _ ∧ Mv _ _ w3 _) := ⟨hd3, hm3⟩; clear hd3 hm3)
    go_ret
    rw [hst.out, hfl.out, if_neg hat, if_neg hat]
    refine ⟨rfl, _, H3.out.1, ((mv_on _ _ _ HA.out).trans H8.out.2).trans H3.out.2, al_flush (ticked_kv _) (ticked_tap _) (((mv_on _ _ _ HA.out).trans H8.out.2).trans H3.out.2).has, ?_⟩
    rw [abs_settle, abs_act, abs_tick]
    rw [tick_eq, tick_eq]
    rfl
end Go.Proofs.Ytipbflmonhlnjaa

import Derived.Test.YtipbflmonhlnjaaBkP
import Derived.Deep.RegionHeld3
namespace Go.Proofs.Ytipbflmonhlnjaa
open Go.RowKit Rec

theorem BkI.rowI {w : World} {K : Bk} (h : BkI w K) {k : Nat} (hk : k < K.im) : ∃ g c g' c', K.iv = .slice (some ⟨g, 0, none⟩) K.im c ∧ K.tv = .slice (some ⟨g', 0, none⟩) K.im c' ∧ w.cell? ⟨g, k, none⟩ = some (K.iV k) ∧ w.cell? ⟨g', k, none⟩ = some (K.tV k) := by
  obtain ⟨g, c, e, _, _, _, h1⟩ := h.i.cell (fun _ => rfl) hk
  obtain ⟨g', c', e', _, _, _, h2⟩ := h.t.cell (fun _ => rfl) hk
  have z1 := h1 0 (by omega)
  have z2 := h2 0 (by omega)
  rw [Nat.mul_one, Nat.add_zero] at z1 z2
  exact ⟨g, c, g', c', e, e', z1, z2⟩
theorem BkI.rowA {w : World} {K : Bk} (h : BkI w K) {k : Nat} (hk : k < K.am) : ∃ g c g' c', K.av = .slice (some ⟨g, 0, none⟩) K.am c ∧ K.wv = .slice (some ⟨g', 0, none⟩) K.am c' ∧ w.cell? ⟨g, k, none⟩ = some (K.aV k) ∧ w.cell? ⟨g', k, none⟩ = some (K.wV k) := by
  obtain ⟨g, c, e, _, _, _, h1⟩ := h.a.cell (fun _ => rfl) hk
  obtain ⟨g', c', e', _, _, _, h2⟩ := h.w.cell (fun _ => rfl) hk
  have z1 := h1 0 (by omega)
  have z2 := h2 0 (by omega)
  rw [Nat.mul_one, Nat.add_zero] at z1 z2
  exact ⟨g, c, g', c', e, e', z1, z2⟩
theorem BkI.kc {w : World} {K : Bk} (h : BkI w K) (j : Nat) : w.cell? ⟨K.kb, j, none⟩ = K.cells[j]? := cell_of_row _ _ j _ _ _ h.box
theorem ah6x {w wr wz wy w4 : World} {K : Bk} {lv u pV : Value} {i P b cap n pl : Nat} {V : Nat → Value} {m : Int} {kp : Bool} {x : List Int} (hK : BkI w K) (h : H3 w wr K lv i V)
    (hO : wr.ownsRow 0 5 1 pV pl ((heC x i).map (Value.int .u8)) ∧ K.bV i = pV ∧ mk8 i = m ∧ decide (i % 2 = 0) = kp ∧ K.bX i = x ∧ x.length = n ∧ (∀ j, 0 ≤ nth x j ∧ nth x j < 256) ∧ i < K.bn) (hA : Ah5 wr wz pV P u x n m kp) (hy : Below wz.heap.size wz wy)
    (h1 : w4.ownsRow 0 83 5 (.slice (some ⟨b, 0, none⟩) (i + 1) cap) (i + 1) ((List.range i).flatMap (fun j => heR (V j) (K.bX j) j) ++ [u, .int .i64 (n : Int), .int .u8 m, .string (strOfNums x), .bool kp])) (h2 : Fr (fun k => lv.ownBlock = some k) wy w4) (h3 : lv.ownBlock = some b ∨ wy.heap.size ≤ b) : H3 w w4 K (.slice (some ⟨b, 0, none⟩) (i + 1) cap) (i + 1) (up V i u) := by
  obtain ⟨_, e1, e2, e3, e4, e5, _, e7⟩ := hO
  subst e4 e1
  exact ah6 hK h e7 hA e5 e2 e3 hy h1 h2 h3
theorem stepw_own {o : Oper} {a : Act} {w : World} {K : Act → World → Prop} {Q : Exit → Act → World → Prop} (s x : Operand) (t : TypeId)
    (ho : o.op = .call { callee := .builtin .append, args := #[s, x], argTypes := #[t, t] }) (e : TypeId) (i0 : TypeInfo) (z : Value) (size bytes : Nat) (ht : Try.prog.underlying t = some (.slice e)) (hi : Try.prog.info? e = some i0) (hz : i0.zero = some z)
    (hsize : i0.size = size) (hby : i0.bytes = bytes) (hzs : z.cells.size = size) (hsz : 0 < size) (v : Value) (k : Nat) (xs : List Value) (hs : a.eval s = v) (hown : w.ownsRow 0 e size v k xs)
    (P : Nat) (hx : a.eval x = .slice (some ⟨P, 0, none⟩) 1 1) (news : List Value) (hl : news.length = size) (hP : w.heap[P]? = some (.cells news.toArray e (0, 0))) (h1 : ∀ u ∈ news, u.oneCell' = true) (h63 : k + 1 ≤ maxLen) (h47 : (k + 1) * bytes ≤ 140737488355328) (d : Nat) (hd : o.dst = some d)
    (h : ∀ g cap w', w'.ownsRow 0 e size (.slice (some ⟨g, 0, none⟩) (k + 1) cap) (k + 1) (xs ++ news) → Fr (fun k => v.ownBlock = some k) w w' → (v.ownBlock = some g ∨ w.heap.size ≤ g) → K (a.put (some d) (.slice (some ⟨g, 0, none⟩) (k + 1) cap)) w') :
    o.wp Try.prog a w K Q := by
  obtain ⟨g, cap, w', hr, h2, h3, hgb⟩ := run_own t o.type e i0 z size bytes ht hi hz hsize hby hzs hsz v k xs hown ⟨P, 0, none⟩ 1 1 news (by decide) (by omega) (news_of hP _ rfl) h1 h63 h47
  unfold Oper.wp
  simp only [execOp, ho, resolve, invoke, builtin, Sem.run_bind, Sem.run_pure, Result.andThen_ok, List.map_toArray, List.map_cons, List.map_nil, hs, hx, hr]
  have hh := h g cap w' h2 h3 hgb
  rw [← hd] at hh
  exact hh
def S1h (kb : Nat) (v : Value) (w : World) : Prop := w.cell? ⟨kb, 1, none⟩ = some v
structure Hi4 (w w4 : World) (K : Bk) (k g b bc2 : Nat) (pa : Option Addr) (n pc im ic kb : Nat) (V : Nat → Value) : Prop where
  c : w4.cell? ⟨g, k, none⟩ = some (.slice pa n pc)
  f : w4.frozen? ⟨g, k, none⟩ = false
  kc : w4.cell? ⟨kb, 1, none⟩ = some (.slice (some ⟨g, 0, none⟩) im ic)
  kd : S1h kb (.slice (some ⟨g, 0, none⟩) im ic) (w4.setCell ⟨g, k, none⟩ (.slice (some ⟨b, 0, none⟩) (n + 1) bc2))
  h : HI4 w (w4.setCell ⟨g, k, none⟩ (.slice (some ⟨b, 0, none⟩) (n + 1) bc2)) K (k + 1) (up V k (.slice (some ⟨b, 0, none⟩) (n + 1) bc2))
theorem hi4d {w wr wy wz w1 : World} {K : Bk} {V : Nat → Value} {k g im ic kb b cap : Nat} {pa : Option Addr} {n pc : Nat} {x : List Int} {m : Int} (h : HI4 w wr K k V) (hi : K.iv = .slice (some ⟨g, 0, none⟩) K.im ic ∧ k < K.im) (hq : IqS w wr K k g im ic kb pa n pc x m) (him : K.im = im) (hL : IqL wr wy pa n pc ((List.replicate n m).map (Value.int .i64))) (hz : Below wy.heap.size wy wz)
    (h1 : w1.ownsRow 0 3 1 (.slice (some ⟨b, 0, none⟩) (n + 1) cap) (n + 1) ((List.replicate n m).map (Value.int .i64) ++ [.int .i64 m])) (h2 : Fr (fun e => (Value.slice pa n pc).ownBlock = some e) wz w1) (h3 : (Value.slice pa n pc).ownBlock = some b ∨ wz.heap.size ≤ b) : Hi4 w w1 K k g b cap pa n pc im ic kb V := by
  subst him
  obtain ⟨⟨a1, a2⟩, a3⟩ := h.done hi.2 hq hi.1 hL hz h1 h2 h3
  have hbn : ¬ (Value.slice pa n pc).ownBlock = some kb := fun e => own_apartX hq.own hq.box (by decide) e
  have hgk : kb ≠ g := fun e => by
    obtain ⟨cs, hg⟩ := hq.gt
    rw [← e, hq.box] at hg
    injection hg with hg
    injection hg with _ hg _
    exact absurd hg (by decide)
  refine ⟨a1, a2, ?_, ?_, a3⟩
  rotate_left
  · exact (Fr.set (g := g)).cell (h2.cell ((below_fr hz (fun _ => False)).cell (hL.fr.cell hq.kc hbn) (fun e => e)) hbn) hgk
  exact h2.cell ((below_fr hz (fun _ => False)).cell (hL.fr.cell hq.kc hbn) (fun e => e)) hbn
set_option maxRecDepth 100000 in
set_option maxHeartbeats 16000000 in
theorem holds_any (w : World) (K : Bk) (h : BkI w K) : Calls Try.prog 11 #[.pointer (some ⟨K.kb, 0, none⟩)] w fun e w' => e = .returned (.bool true) ∧ Fr K.all w w' := by
  have c1 : w.cell? ⟨K.kb, 1, none⟩ = some K.iv := h.kc 1
  have c3 : w.cell? ⟨K.kb, 3, none⟩ = some K.av := h.kc 3
  obtain ⟨ia, ic, hiv, hicc, _⟩ := owns_slice h.i.row
  obtain ⟨aa, ac, hav, hacc, _⟩ := owns_slice h.a.row
  obtain ⟨ba, bc, hbv, hbcc, _⟩ := owns_slice h.b.row
  obtain ⟨kb, hkb⟩ : ∃ kb, K.kb = kb := ⟨_, rfl⟩
  rw [hkb] at c1 c3 ⊢
  rw [hiv] at c1
  obtain ⟨im, him⟩ : ∃ im, K.im = im := ⟨_, rfl⟩
  obtain ⟨am, ham⟩ : ∃ am, K.am = am := ⟨_, rfl⟩
  obtain ⟨bn, hbn⟩ : ∃ bn, K.bn = bn := ⟨_, rfl⟩
  have hm1 := h.im
  have hm2 := h.an
  have hm3 := h.bn
  rw [him] at c1 hiv hicc hm1
  rw [ham] at hav hacc hm2
  rw [hbn] at hbv hbcc hm3
  have HK : Hid (BkI w K ∧ K.kb = kb ∧ K.im = im ∧ K.am = am ∧ K.bn = bn ∧ K.iv = .slice ia im ic ∧ K.av = .slice aa am ac ∧ K.bv = .slice ba bn bc) := ⟨h, hkb, him, ham, hbn, hiv, hav, hbv⟩
  clear h hkb him ham hbn hiv hav hbv c3
  go_enter Try.func11, Try.ntmps11
  go_upto_block 0 with (fail)
  clear c1
  go_cut [3, 27, 28, 29, 30, 31, 32, 33, 34, 35, 36, 37, 38, 39, 40, 41, 42, 43, 44, 45, 46] (fun _ _ _ _ _ _ _ _ _ _ _ _ _ _ _ _ _ _ _ _ _ wx => ∃ m, wx = w.drewN m)
  case first =>
    as_aux_lemma =>
    go_wp2
    go_loopw [3, 27, 28, 29, 30, 31, 32, 33, 34, 35, 36, 37, 38, 39, 40, 41, 42, 43, 44, 45, 46] (fun _ i _ _ _ _ _ _ _ _ _ _ _ _ _ _ _ _ _ _ _ wr => ∃ k : Nat, k ≤ im ∧ i = .int .i64 k ∧ ∃ m, wr = w.drewN m) (fun _ i _ _ _ _ _ _ _ _ _ _ _ _ _ _ _ _ _ _ _ _ => im - (intOf i).toNat)
    case atStart => exact ⟨0, Nat.zero_le _, rfl, 0, rfl⟩
    case round =>
      obtain ⟨k, hk, rfl, mw, hmw⟩ := hrel
      have HM : Hid (wr = w.drewN mw) := hmw
      clear hmw
      by_cases hlt : k < im
      · have HB : Below w.heap.size w wr := by rw [HM.out]; exact below_drewN (Below.refl _ _) _
        have hKr := HK.out.1.on HB
        have hki : k < K.im := by rw [HK.out.2.2.1]; exact hlt
        obtain ⟨g, c, g', c', e1, e2, x1, x2⟩ := hKr.rowI (k := k) hki
        have x3 : wr.cell? ⟨kb, 1, none⟩ = some K.iv := by rw [← HK.out.2.1]; exact hKr.kc 1
        have x4 : wr.cell? ⟨kb, 2, none⟩ = some K.tv := by rw [← HK.out.2.1]; exact hKr.kc 2
        rw [e1, HK.out.2.2.1] at x3
        rw [e2, HK.out.2.2.1] at x4
        have HX : Hid (∀ q, Calls Try.prog 39 #[K.iV k, K.tV k] (wr.drewN q) fun e w' => e = .returned (.bool true) ∧ ∃ m, w' = (wr.drewN q).drewN m) := fun q => by
          have hkx := hKr.on (below_drewN (Below.refl _ _) q)
          exact sameI_any _ (K.iV k) (K.tV k) _ (K.iX k) (hkx.i.ls k hki) (hkx.t.ls k hki) (by have := hkx.ix k hki; omega)
        have hcc : im ≤ c ∧ im ≤ c' := by
          have r1 := hKr.i.row
          have r2 := hKr.t.row
          rw [e1, HK.out.2.2.1] at r1
          rw [e2, HK.out.2.2.1] at r2
          obtain ⟨_, _, z1, z2, _⟩ := owns_slice r1
          obtain ⟨_, _, z3, z4, _⟩ := owns_slice r2
          cases z1; cases z3; exact ⟨z2, z4⟩
        obtain ⟨pI, hpI⟩ : ∃ pI, K.iV k = pI := ⟨_, rfl⟩
        obtain ⟨pT, hpT⟩ : ∃ pT, K.tV k = pT := ⟨_, rfl⟩
        rw [hpI] at HX x1
        rw [hpT] at HX x2
        clear hKr e1 e2 hpI hpT HB hki
        go_wp2
        go_big_quiet (first | (go_at_call 39; exact Calls.quiet_of (HX.out _)))
        go_wp2
        exact ⟨⟨k + 1, hlt, rfl, _, by rw [HM.out, World.drewN_drewN]⟩, by simp [intOf]; omega⟩
      · go_wp2
        go_meet
        exact ⟨mw, HM.out⟩
  case rest =>
  obtain ⟨m1, hm1c⟩ := hcut
  obtain ⟨w1, hw1⟩ : ∃ w1, wc = w1 := ⟨_, rfl⟩
  rw [hw1] at hm1c
  have HB1 : Hid (Below w.heap.size w w1) := by rw [hm1c]; exact below_drewN (Below.refl _ _) _
  have HK1 : Hid (BkI w1 K) := HK.out.1.on HB1.out
  rw [hw1]
  clear hm1c hw1
  have c3 : w1.cell? ⟨kb, 3, none⟩ = some (.slice aa am ac) := by rw [← HK.out.2.1, ← HK.out.2.2.2.2.2.2.1]; exact HK1.out.kc 3
  go_upto_block 2 with (fail)
  clear c3
  go_cut [4, 52, 53, 54, 55, 56, 57, 58, 59, 60, 61, 62, 63, 64, 65, 66, 67, 68, 69, 70, 71] (fun _ _ _ _ _ _ _ _ _ _ _ _ _ _ _ _ _ _ _ _ _ wx => ∃ m, wx = w1.drewN m)
  case first =>
    as_aux_lemma =>
    go_wp2
    go_loopw [4, 52, 53, 54, 55, 56, 57, 58, 59, 60, 61, 62, 63, 64, 65, 66, 67, 68, 69, 70, 71] (fun _ i _ _ _ _ _ _ _ _ _ _ _ _ _ _ _ _ _ _ _ wr => ∃ k : Nat, k ≤ am ∧ i = .int .i64 k ∧ ∃ m, wr = w1.drewN m) (fun _ i _ _ _ _ _ _ _ _ _ _ _ _ _ _ _ _ _ _ _ _ => am - (intOf i).toNat)
    case atStart => exact ⟨0, Nat.zero_le _, rfl, 0, rfl⟩
    case round =>
      obtain ⟨k, hk, rfl, mw, hmw⟩ := hrel
      have HM : Hid (wr = w1.drewN mw) := hmw
      clear hmw
      by_cases hlt : k < am
      · have HB : Below w1.heap.size w1 wr := by rw [HM.out]; exact below_drewN (Below.refl _ _) _
        have hKr := HK1.out.on HB
        have hki : k < K.am := by rw [HK.out.2.2.2.1]; exact hlt
        obtain ⟨g, c, g', c', e1, e2, x1, x2⟩ := hKr.rowA (k := k) hki
        have x3 : wr.cell? ⟨kb, 3, none⟩ = some K.av := by rw [← HK.out.2.1]; exact hKr.kc 3
        have x4 : wr.cell? ⟨kb, 4, none⟩ = some K.wv := by rw [← HK.out.2.1]; exact hKr.kc 4
        rw [e1, HK.out.2.2.2.1] at x3
        rw [e2, HK.out.2.2.2.1] at x4
        have HX : Hid (∀ q, Calls Try.prog 45 #[K.aV k, K.wV k] (wr.drewN q) fun e w' => e = .returned (.bool true) ∧ ∃ m, w' = (wr.drewN q).drewN m) := fun q => by
          have hkx := hKr.on (below_drewN (Below.refl _ _) q)
          exact sameK_any _ (K.aV k) (K.wV k) _ (K.aC k) (K.wC k) (hkx.a.ls k hki) (hkx.w.ls k hki) (hkx.ac k hki) (by have := hkx.am k hki; omega)
        have hcc : am ≤ c ∧ am ≤ c' := by
          have r1 := hKr.a.row
          have r2 := hKr.w.row
          rw [e1, HK.out.2.2.2.1] at r1
          rw [e2, HK.out.2.2.2.1] at r2
          obtain ⟨_, _, z1, z2, _⟩ := owns_slice r1
          obtain ⟨_, _, z3, z4, _⟩ := owns_slice r2
          cases z1; cases z3; exact ⟨z2, z4⟩
        obtain ⟨pI, hpI⟩ : ∃ pI, K.aV k = pI := ⟨_, rfl⟩
        obtain ⟨pT, hpT⟩ : ∃ pT, K.wV k = pT := ⟨_, rfl⟩
        rw [hpI] at HX x1
        rw [hpT] at HX x2
        clear hKr e1 e2 hpI hpT HB hki
        go_wp2
        go_big_quiet (first | (go_at_call 45; exact Calls.quiet_of (HX.out _)))
        go_wp2
        exact ⟨⟨k + 1, hlt, rfl, _, by rw [HM.out, World.drewN_drewN]⟩, by simp [intOf]; omega⟩
      · go_wp2
        go_meet
        exact ⟨mw, HM.out⟩
  case rest =>
  obtain ⟨m2, hm2c⟩ := hcut
  obtain ⟨w2, hw2⟩ : ∃ w2, wc = w2 := ⟨_, rfl⟩
  rw [hw2] at hm2c
  have HB2 : Hid (Below w.heap.size w w2) := HB1.out.trans ((by rw [hm2c]; exact below_drewN (Below.refl _ _) _ : Below w1.heap.size w1 w2).mono HB1.out.size)
  have HK2 : Hid (BkI w2 K) := HK.out.1.on HB2.out
  rw [hw2]
  clear hm2c hw2 HK1 HB1
  have c0 : w2.cell? ⟨kb, 0, none⟩ = some (.slice ba bn bc) := by rw [← HK.out.2.1, ← HK.out.2.2.2.2.2.2.2]; exact HK2.out.kc 0
  go_upto_block 4 with (fail)
  clear c0
  go_cut [5, 7, 77, 78, 79, 80, 81, 82, 83, 84, 85, 86, 87, 88, 89, 90, 91, 92, 93, 94, 95] (fun s5 _ _ _ _ _ _ _ _ _ _ _ _ _ _ _ _ _ _ _ _ wx => ∃ V, H3 w2 wx K s5 bn V)
  case first =>
    go_wp2
    go_loopw [5, 7, 77, 78, 79, 80, 81, 82, 83, 84, 85, 86, 87, 88, 89, 90, 91, 92, 93, 94, 95] (fun s5 _ i _ _ _ _ _ _ _ _ _ _ _ _ _ _ _ _ _ _ wr => ∃ k : Nat, k ≤ bn ∧ i = .int .i64 k ∧ ∃ V, H3 w2 wr K s5 k V) (fun _ _ i _ _ _ _ _ _ _ _ _ _ _ _ _ _ _ _ _ _ _ => bn - (intOf i).toNat)
    case atStart => exact ⟨0, Nat.zero_le _, rfl, fun _ => .slice none 0 0, H3.zero HK2.out (Below.refl _ _)⟩
    case round =>
      obtain ⟨k, hk, rfl, V, hH⟩ := hrel
      obtain ⟨lv, hlv⟩ : ∃ lv, u5 = lv := ⟨_, rfl⟩
      rw [hlv] at hH ⊢
      have HH : Hid (H3 w2 wr K lv k V) := hH
      clear hH hlv
      by_cases hlt : k < bn
      · have hkb : k < K.bn := by rw [HK.out.2.2.2.2.1]; exact hlt
        obtain ⟨g, cap, e, d0, d1, d2, d3, d4⟩ := HH.out.cells hkb
        have e2 := e.symm.trans HK.out.2.2.2.2.2.2.2
        rw [HK.out.2.2.2.2.1] at e2
        cases e2
        have hold := HH.out.old k (Nat.le_refl _) hkb
        have hxw := HK2.out.bx k hkb
        obtain ⟨n, hn⟩ : ∃ n, (K.bX k).length = n := ⟨_, rfl⟩
        obtain ⟨pV, hpV⟩ : ∃ pV, K.bV k = pV := ⟨_, rfl⟩
        obtain ⟨m, hm⟩ : ∃ m, mk8 k = m := ⟨_, rfl⟩
        obtain ⟨kp, hkp⟩ : ∃ kp, decide (k % 2 = 0) = kp := ⟨_, rfl⟩
        obtain ⟨x, hx⟩ : ∃ x, K.bX k = x := ⟨_, rfl⟩
        rw [hpV] at d0 hold
        rw [hn] at d1 hxw
        rw [hm] at d2
        rw [hkp] at d4
        rw [hx] at d3 hold hxw hn
        have hn1 : n ≤ 10000000 := hxw.1
        obtain ⟨pl, hpl⟩ : ∃ pl, (heC x k).length = pl := ⟨_, rfl⟩
        obtain ⟨pa, pc, hps, _⟩ := owns_slice hold
        rw [hpl] at hps hold
        subst hps
        have HO : Hid (wr.ownsRow 0 5 1 (Value.slice pa pl pc) pl ((heC x k).map (Value.int .u8)) ∧ K.bV k = (Value.slice pa pl pc) ∧ mk8 k = m ∧ decide (k % 2 = 0) = kp ∧ K.bX k = x ∧ x.length = n ∧ (∀ j, 0 ≤ nth x j ∧ nth x j < 256) ∧ k < K.bn) := ⟨hold, hpV, hm, hkp, hx, hn, hxw.2, hkb⟩
        have HPL : Hid ((heC x k).length = pl) := hpl
        clear hpl
        have hp1 : (Value.slice pa pl pc).oneCell' = true := own_one hold
        clear hold hpV hm hkp hx hn hxw e hkb
        obtain ⟨P, hP⟩ : ∃ P, wr.heap.size = P := ⟨_, rfl⟩
        go_upto_region 17 with fail
        obtain ⟨wP, hwP⟩ : ∃ wP, wr.alloc (.cells #[(Value.slice pa pl pc), .int .i64 (n : Int), .int .u8 m, .string (strOfNums x), .bool kp] 83) = wP := ⟨_, rfl⟩
        have HP : Hid (Below wr.heap.size wr wP ∧ wP.heap[P]? = some (.cells #[(Value.slice pa pl pc), .int .i64 (n : Int), .int .u8 m, .string (strOfNums x), .bool kp] 83 (0, 0))) := by
          rw [← hwP, ← hP]; exact ⟨(Below.refl _ _).alloc (Nat.le_refl _) _, heap_alloc_new _ _⟩
        try rw [hP]
        rw [hwP]
        clear hwP d0 d1 d2 d3 d4
        have HG : Hid (∀ b, (Value.slice pa pl pc).ownBlock = some b → b < P) := fun b e => by rw [← hP]; exact owns_block HO.out.1 e
        have p0 : wP.cell? ⟨P, 0, none⟩ = some (Value.slice pa pl pc) := cell_of_row _ _ 0 _ _ _ HP.out.2
        have p1 : wP.cell? ⟨P, 1, none⟩ = some (.int .i64 (n : Int)) := cell_of_row _ _ 1 _ _ _ HP.out.2
        have p2 : wP.cell? ⟨P, 2, none⟩ = some (.int .u8 m) := cell_of_row _ _ 2 _ _ _ HP.out.2
        have p3 : wP.cell? ⟨P, 3, none⟩ = some (.string (strOfNums x)) := cell_of_row _ _ 3 _ _ _ HP.out.2
        have p4 : wP.cell? ⟨P, 4, none⟩ = some (.bool kp) := cell_of_row _ _ 4 _ _ _ HP.out.2
        go_upto_if 82 with fail
        go_cut [83, 84, 85, 86, 87, 88, 89, 90] (fun _ _ _ _ _ _ _ _ wz => ∃ u, Ah5 wr wz (Value.slice pa pl pc) P u x n m kp)
        case first =>
          cases kp
          · go_wp2
            go_meet
            refine ⟨(Value.slice pa pl pc), HP.out.2, below_fr HP.out.1 _, ?_, fun b e => .inl e, hp1⟩
            have hc : heC x k = List.replicate (n + 3) m := by unfold heC; rw [if_neg (of_decide_eq_false HO.out.2.2.2.1), HO.out.2.2.2.2.2.1, HO.out.2.2.1]
            have ho := HO.out.1
            have hl := HPL.out
            rw [hc, List.length_replicate] at hl
            rw [hc, ← hl] at ho
            rw [← hl]
            exact owns_fr ho (below_fr HP.out.1 (fun _ => False)) (fun _ _ e => e)
          · have ho := HO.out.1
            have hc : heC x k = x := by unfold heC; rw [if_pos (of_decide_eq_true HO.out.2.2.2.1)]
            have hl := HPL.out
            rw [hc, HO.out.2.2.2.2.2.1] at hl
            subst hl
            rw [hc] at ho
            have hoP := owns_fr ho (below_fr HP.out.1 (fun _ => False)) (fun _ _ e => e)
            have hcv := str_own hoP HO.out.2.2.2.2.2.2.1 (by omega)
            have HOP : Hid (wP.ownsRow 0 5 1 (Value.slice pa n pc) n (x.map (Value.int .u8))) := hoP
            clear ho hoP hc
            go_upto_region 20 with fail
            clear hcv
            go_wp2_with (go_at_call 46; refine (grown_any wP (Value.slice pa n pc) n x m (strOfNums x) true HOP.out (by omega)).mono ?_; rintro e w5 ⟨g5, cap5, rfl, h1, h2, h3⟩
                         have z5 := h3.heap HP.out.2 (fun e => absurd (HG.out _ e) (Nat.lt_irrefl _))
                         have H5 : Hid (w5.heap[P]? = some (.cells #[(Value.slice pa n pc), .int .i64 (n : Int), .int .u8 m, .string (strOfNums x), .bool true] 83 (0, 0)) ∧ w5.ownsRow 0 5 1 (.slice (some ⟨g5, 0, none⟩) (n + 3) cap5) (n + 3) ((List.replicate (n + 3) m).map (Value.int .u8)) ∧ ((Value.slice pa n pc).ownBlock = some g5 ∨ wP.heap.size ≤ g5) ∧ Fr (fun k => (Value.slice pa n pc).ownBlock = some k) wP w5) := ⟨z5, h1, h2, h3⟩
                         clear h1 h2 h3 p0 p1 p2 p3 p4
                         have p0 : w5.cell? ⟨P, 0, none⟩ = some (Value.slice pa n pc) := cell_of_row _ _ 0 _ _ _ z5
                         have p1 : w5.cell? ⟨P, 1, none⟩ = some (.int .i64 (n : Int)) := cell_of_row _ _ 1 _ _ _ z5
                         have p2 : w5.cell? ⟨P, 2, none⟩ = some (.int .u8 m) := cell_of_row _ _ 2 _ _ _ z5
                         have p3 : w5.cell? ⟨P, 3, none⟩ = some (.string (strOfNums x)) := cell_of_row _ _ 3 _ _ _ z5
                         have p4 : w5.cell? ⟨P, 4, none⟩ = some (.bool true) := cell_of_row _ _ 4 _ _ _ z5
                         have q0 := frozen_of_row w5 P 0 _ _ z5
                         have q1 := frozen_of_row w5 P 1 _ _ z5
                         have q2 := frozen_of_row w5 P 2 _ _ z5
                         have q3 := frozen_of_row w5 P 3 _ _ z5
                         have q4 := frozen_of_row w5 P 4 _ _ z5
                         clear z5)
            go_meet
            exact ⟨_, ah5 hP.symm HP.out.1 H5.out.1 HG.out (heap_lt HP.out.2) H5.out.2.1 H5.out.2.2.1 H5.out.2.2.2⟩
        case rest =>
        obtain ⟨u, hA⟩ := hcut
        obtain ⟨wz, hwz⟩ : ∃ wz, wc = wz := ⟨_, rfl⟩
        rw [hwz] at hA ⊢
        clear hwz p0 p1 p2 p3 p4 HP
        have HA : Hid (Ah5 wr wz (Value.slice pa pl pc) P u x n m kp) := hA
        clear hA
        have p0 : wz.cell? ⟨P, 0, none⟩ = some u := cell_of_row _ _ 0 _ _ _ HA.out.z
        have p1 : wz.cell? ⟨P, 1, none⟩ = some (.int .i64 (n : Int)) := cell_of_row _ _ 1 _ _ _ HA.out.z
        have p2 : wz.cell? ⟨P, 2, none⟩ = some (.int .u8 m) := cell_of_row _ _ 2 _ _ _ HA.out.z
        have p3 : wz.cell? ⟨P, 3, none⟩ = some (.string (strOfNums x)) := cell_of_row _ _ 3 _ _ _ HA.out.z
        have p4 : wz.cell? ⟨P, 4, none⟩ = some (.bool kp) := cell_of_row _ _ 4 _ _ _ HA.out.z
        obtain ⟨i1, j1, j2, j3, j4⟩ := info_parts infoHe
        have ha : Below wz.heap.size wz (wz.alloc (.cells #[u, .int .i64 (n : Int), .int .u8 m, .string (strOfNums x), .bool kp] 83)) := (Below.refl _ _).alloc (Nat.le_refl _) _
        have HRow : Hid (wz.ownsRow 0 83 5 lv k ((List.range k).flatMap (fun j => heR (V j) (K.bX j) j))) := owns_fr HH.out.nl.row HA.out.fr (fun b e e2 => own_two HH.out.nl.row HO.out.1 (by decide) e e2)
        go_upto_region 22 with (at_builtin; refine wp_own rfl (.tmp 91) (.tmp 93) 37 rfl 83 i1 _ 5 64 Try.underlying37 j1 j2 j3 j4 rfl (by decide) lv k ((List.range k).flatMap (fun j => heR (V j) (K.bX j) j)) rfl (owns_fr HRow.out (below_fr ha (fun _ => False)) (fun _ _ e => e)) ⟨wz.heap.size, 0, none⟩ 1 1 [u, .int .i64 (n : Int), .int .u8 m, .string (strOfNums x), .bool kp] rfl (by decide) rfl (news_of (heap_alloc_new wz _) _ rfl) (by intro y hy; simp at hy; rcases hy with rfl | rfl | rfl | rfl | rfl <;> first | exact HA.out.one | rfl) (by unfold maxLen; omega) (by omega) ?_
                                intro b bc2 w4 h1 h2 h3
                                go_frame
                                have H9 : Hid (H3 w2 w4 K (.slice (some ⟨b, 0, none⟩) (k + 1) bc2) (k + 1) (up V k u)) := ah6x HK2.out HH.out HO.out HA.out ha h1 h2 h3
                                clear h1 h2 h3)
        clear p0 p1 p2 p3 p4
        go_wp2
        exact ⟨⟨k + 1, hlt, rfl, _, H9.out⟩, by simp [intOf]; omega⟩
      · have hkn : k = bn := by omega
        subst hkn
        go_wp2
        go_meet
        exact ⟨V, HH.out⟩
  case rest =>
  obtain ⟨V3, h3⟩ := hcut
  obtain ⟨lv, hlv⟩ : ∃ lv, u5 = lv := ⟨_, rfl⟩
  obtain ⟨w3, hw3⟩ : ∃ w3, wc = w3 := ⟨_, rfl⟩
  rw [hw3, hlv] at h3
  rw [hw3, hlv]
  have HH3 : Hid (H3 w2 w3 K lv bn V3) := h3
  clear h3 hw3 hlv
  have HI3 : Hid (LV 75 1 3 1 w3 K.iv K.im (fun i => [K.iV i]) K.iV (fun i => (K.iX i).length) (fun i => (K.iX i).map (Value.int .i64)) ∧ LV 51 1 86 3 w3 K.av K.am (fun i => [K.aV i]) K.aV K.aM K.aC ∧ w3.heap[kb]? = some (.cells K.cells 41 (0, 0))) := by
    rw [← HK.out.2.1]; exact HH3.out.rest HK2.out
  have c1 : w3.cell? ⟨kb, 1, none⟩ = some (.slice ia im ic) := by rw [← HK.out.2.2.2.2.2.1]; exact cell_of_row _ _ 1 _ _ _ HI3.out.2.2
  go_upto_block 6 with (fail)
  clear c1
  go_cut [8, 9, 101, 102, 103, 104, 105, 106, 107, 108, 109, 110, 111, 112, 113, 114, 115, 116, 117, 118, 119, 120, 121, 122, 123, 124, 125, 126, 127, 128, 129, 130, 131, 132, 133, 134, 135, 136, 137, 138, 139, 140, 141, 142, 143, 144] (fun _ _ _ _ _ _ _ _ _ _ _ _ _ _ _ _ _ _ _ _ _ _ _ _ _ _ _ _ _ _ _ _ _ _ _ _ _ _ _ _ _ _ _ _ _ _ wx => ∃ V, HI4 w3 wx K im V)
  case first =>
    go_wp2
    go_loopw [8, 9, 101, 102, 103, 104, 105, 106, 107, 108, 109, 110, 111, 112, 113, 114, 115, 116, 117, 118, 119, 120, 121, 122, 123, 124, 125, 126, 127, 128, 129, 130, 131, 132, 133, 134, 135, 136, 137, 138, 139, 140, 141, 142, 143, 144] (fun _ _ i _ _ _ _ _ _ _ _ _ _ _ _ _ _ _ _ _ _ _ _ _ _ _ _ _ _ _ _ _ _ _ _ _ _ _ _ _ _ _ _ _ _ _ wr => ∃ k : Nat, k ≤ im ∧ i = .int .i64 k ∧ ∃ V, HI4 w3 wr K k V) (fun _ _ i _ _ _ _ _ _ _ _ _ _ _ _ _ _ _ _ _ _ _ _ _ _ _ _ _ _ _ _ _ _ _ _ _ _ _ _ _ _ _ _ _ _ _ _ => im - (intOf i).toNat)
    case atStart => exact ⟨0, Nat.zero_le _, rfl, _, H4.zero HI3.out.1⟩
    case round =>
      obtain ⟨k, hk, rfl, V, hH⟩ := hrel
      obtain ⟨wo, hwo⟩ : ∃ wo, wr = wo := ⟨_, rfl⟩
      rw [hwo] at hH ⊢
      clear hwo
      have HH : Hid (HI4 w3 wo K k V) := hH
      clear hH
      by_cases hlt : k < im
      · have hki : k < K.im := by rw [HK.out.2.2.1]; exact hlt
        obtain ⟨g, pa, n, pc, x, m, ic', hiv, hq⟩ := HI4.open HK2.out HI3.out.1 HH.out HI3.out.2.2 hki
        have hiv2 := hiv
        rw [HK.out.2.2.2.2.2.1, HK.out.2.2.1] at hiv2
        cases hiv2
        have HIV : Hid (K.iv = .slice (some ⟨g, 0, none⟩) K.im ic ∧ k < K.im) := ⟨hiv, hki⟩
        clear hiv hki
        have HQ : Hid (IqS w3 wo K k g im ic kb pa n pc x m) := by
          have e := hq
          rw [HK.out.2.2.1] at e
          exact e
        clear hq
        have hn1 := HQ.out.nl
        have d1 := HQ.out.kc
        have d2 := HQ.out.gc
        have hm : (-1000 : Int) - (k : Int) = m := HQ.out.me
        go_upto_block 8 with (fail)
        go_cut [9, 112, 113, 114, 115, 116, 117, 118, 119, 120, 121, 122, 123, 124, 125, 126] (fun _ _ _ _ _ _ _ _ _ _ _ _ _ _ _ _ wx => IqL wo wx pa n pc ((List.replicate n m).map (Value.int .i64)))
        case first =>
          go_wp2
          go_loopw [9, 112, 113, 114, 115, 116, 117, 118, 119, 120, 121, 122, 123, 124, 125, 126] (fun _ i _ _ _ _ _ _ _ _ _ _ _ _ _ _ wy => ∃ r : Nat, r ≤ n ∧ i = .int .i64 r ∧ IqL wo wy pa n pc ((mks r m x).map (Value.int .i64))) (fun _ i _ _ _ _ _ _ _ _ _ _ _ _ _ _ _ => n - (intOf i).toNat)
          case atStart => exact ⟨0, Nat.zero_le _, rfl, HQ.out.zero⟩
          case round =>
            obtain ⟨r, hr, rfl, hL⟩ := hrel
            obtain ⟨wy, hwy⟩ : ∃ wy, wr = wy := ⟨_, rfl⟩
            rw [hwy] at hL ⊢
            have HL : Hid (IqL wo wy pa n pc ((mks r m x).map (Value.int .i64))) := hL
            clear hL d1 d2
            by_cases hlr : r < n
            · obtain ⟨p, rfl⟩ := HQ.out.pf.resolve_left (by omega)
              obtain ⟨d1, d2, _⟩ := HQ.out.keep HL.out
              obtain ⟨z, dz⟩ := HL.out.cell hlr
              have fz := HL.out.own.frozenAt r
              have HN : Hid (IqL wo (wy.setCell ⟨p, r, none⟩ (.int .i64 m)) (some ⟨p, 0, none⟩) n pc ((mks (r + 1) m x).map (Value.int .i64))) := HL.out.next hlr HQ.out.xl.1
              go_wp2
              exact ⟨⟨r + 1, hlr, rfl, HN.out⟩, by simp [intOf]; omega⟩
            · have hrn : r = n := by omega
              subst hrn
              go_wp2
              go_meet
              exact HL.out.full HQ.out.xl.1
        case rest =>
        obtain ⟨wy, hwy⟩ : ∃ wy, wc = wy := ⟨_, rfl⟩
        rw [hwy] at hcut ⊢
        have HL : Hid (IqL wo wy pa n pc ((List.replicate n m).map (Value.int .i64))) := hcut
        clear hcut hwy d1 d2
        obtain ⟨d1, d2, _⟩ := HQ.out.keep HL.out
        obtain ⟨i1, j1, j2, j3, j4⟩ := info_parts infoI64
        have HA1 : Hid (∀ o, Below wy.heap.size wy (wy.drew.alloc o)) := fun o => (Below.refl wy.heap.size wy).drew.alloc (Nat.le_refl _) o
        have HA2 : Hid (∀ o, Below wy.heap.size wy (wy.alloc o).drew) := fun o => ((Below.refl wy.heap.size wy).alloc (Nat.le_refl _) o).drew
        have HA3 : Hid (∀ o, Below wy.heap.size wy (wy.drew.alloc o).drew) := fun o => (HA1.out o).drew
        have HA0 : Hid (∀ o, Below wy.heap.size wy (wy.alloc o)) := fun o => ((Below.refl wy.heap.size wy).alloc (Nat.le_refl _) o)
        have hkA : ∀ o, S1h kb (.slice (some ⟨g, 0, none⟩) im ic) (wy.drew.alloc o) := fun o => (fr_alloc (fun _ => False) wy.drew o).cell d1 (fun e => e)
        have d2b : ∀ o, (wy.drew.alloc o).cell? ⟨g, k, none⟩ = some (.slice pa n pc) := fun o => (fr_alloc (fun _ => False) wy.drew o).cell d2 (fun e => e)
        have d1a : (wy.alloc (.cells #[.int .i64 m] 3)).cell? ⟨kb, 1, none⟩ = some (.slice (some ⟨g, 0, none⟩) im ic) := (fr_alloc (fun _ => False) wy _).cell d1 (fun e => e)
        have d2a : (wy.alloc (.cells #[.int .i64 m] 3)).cell? ⟨g, k, none⟩ = some (.slice pa n pc) := (fr_alloc (fun _ => False) wy _).cell d2 (fun e => e)
        go_upto_region 31 with fail
        refine wp_region_held_drew (S := S1h kb (.slice (some ⟨g, 0, none⟩) im ic)) (by as_aux_lemma => kernel_rfl) ?_ (fun hHeld => ?_)
        · first | exact d1 | exact d1a | exact hkA _ | exact e3 | exact e4
        have h18 : Array.replicate 18 false = #[false, false, false, false, false, false, false, false, false, false, false, false, false, false, false, false, false, false] := rfl
        simp only [List.size_toArray, List.length_cons, List.length_nil, Nat.reduceAdd, h18]
        refine tkH (i := 0) (v := (.pointer (some ⟨kb, 0, none⟩))) 127 rfl rfl (by as_aux_lemma => kernel_rfl) (by as_aux_lemma => kernel_rfl) (by as_aux_lemma => kernel_rfl) (fun _ _ _ h => h) (Or.inl ⟨by rfl, fun w hSw => ex_move (x := .tmp 0) rfl rfl⟩) (by assumption) ?_
        go_frame
        refine tkH (i := 1) (v := (.pointer (some ⟨kb, 0, none⟩))) 128 rfl rfl (by as_aux_lemma => kernel_rfl) (by as_aux_lemma => kernel_rfl) (by as_aux_lemma => kernel_rfl) (fun _ _ _ h => h) (Or.inl ⟨by rfl, fun w hSw => ex_nil (x := .tmp 127) rfl rfl⟩) (by assumption) ?_
        go_frame
        refine tkH (i := 2) (v := (.pointer (some ⟨kb, 1, none⟩))) 129 rfl rfl (by as_aux_lemma => kernel_rfl) (by as_aux_lemma => kernel_rfl) (by as_aux_lemma => kernel_rfl) (fun _ _ _ h => h) (Or.inl ⟨by rfl, fun w hSw => ex_field1 (x := .tmp 128) rfl rfl⟩) (by assumption) ?_
        go_frame
        refine tkH (i := 3) (v := (.slice (some ⟨g, 0, none⟩) im ic)) 130 rfl rfl (by as_aux_lemma => kernel_rfl) (by as_aux_lemma => kernel_rfl) (by as_aux_lemma => kernel_rfl) (fun _ _ _ h => h) (Or.inl ⟨by rfl, fun w hSw => ex_load1 (x := .tmp 129) rfl rfl hSw⟩) (by assumption) ?_
        go_frame
        refine tkH (i := 4) (v := (.int .i64 (k : Int))) 131 rfl rfl (by as_aux_lemma => kernel_rfl) (by as_aux_lemma => kernel_rfl) (by as_aux_lemma => kernel_rfl) (fun _ _ _ h => h) (Or.inl ⟨by rfl, fun w hSw => ex_move (x := .tmp 8) rfl rfl⟩) (by assumption) ?_
        go_frame
        refine tkH (i := 5) (v := (.pointer (some ⟨kb, 0, none⟩))) 132 rfl rfl (by as_aux_lemma => kernel_rfl) (by as_aux_lemma => kernel_rfl) (by as_aux_lemma => kernel_rfl) (fun _ _ _ h => h) (Or.inl ⟨by rfl, fun w hSw => ex_move (x := .tmp 0) rfl rfl⟩) (by assumption) ?_
        go_frame
        refine tkH (i := 6) (v := (.pointer (some ⟨kb, 0, none⟩))) 133 rfl rfl (by as_aux_lemma => kernel_rfl) (by as_aux_lemma => kernel_rfl) (by as_aux_lemma => kernel_rfl) (fun _ _ _ h => h) (Or.inl ⟨by rfl, fun w hSw => ex_nil (x := .tmp 132) rfl rfl⟩) (by assumption) ?_
        go_frame
        refine tkH (i := 7) (v := (.pointer (some ⟨kb, 1, none⟩))) 134 rfl rfl (by as_aux_lemma => kernel_rfl) (by as_aux_lemma => kernel_rfl) (by as_aux_lemma => kernel_rfl) (fun _ _ _ h => h) (Or.inl ⟨by rfl, fun w hSw => ex_field1 (x := .tmp 133) rfl rfl⟩) (by assumption) ?_
        go_frame
        refine tkH (i := 8) (v := (.slice (some ⟨g, 0, none⟩) im ic)) 135 rfl rfl (by as_aux_lemma => kernel_rfl) (by as_aux_lemma => kernel_rfl) (by as_aux_lemma => kernel_rfl) (fun _ _ _ h => h) (Or.inl ⟨by rfl, fun w hSw => ex_load1 (x := .tmp 134) rfl rfl hSw⟩) (by assumption) ?_
        go_frame
        refine tkH (i := 9) (v := (.int .i64 (k : Int))) 136 rfl rfl (by as_aux_lemma => kernel_rfl) (by as_aux_lemma => kernel_rfl) (by as_aux_lemma => kernel_rfl) (fun _ _ _ h => h) (Or.inl ⟨by rfl, fun w hSw => ex_move (x := .tmp 8) rfl rfl⟩) (by assumption) ?_
        go_frame
        refine tkH (i := 10) (v := (.pointer (some ⟨g, k, none⟩))) 137 rfl rfl (by as_aux_lemma => kernel_rfl) (by as_aux_lemma => kernel_rfl) (by as_aux_lemma => kernel_rfl) (fun _ _ _ h => h) (Or.inl ⟨by rfl, fun w hSw => ex_index1 (x := .tmp 135) (y := .tmp 136) rfl rfl rfl hlt⟩) (by assumption) ?_
        go_frame
        refine tkH (i := 12) (v := (.int .i64 (k : Int))) 139 rfl rfl (by as_aux_lemma => kernel_rfl) (by as_aux_lemma => kernel_rfl) (by as_aux_lemma => kernel_rfl) (fun _ _ _ h => h) (Or.inl ⟨by rfl, fun w hSw => ex_move (x := .tmp 8) rfl rfl⟩) (by assumption) ?_
        go_frame
        refine tkH (i := 13) (v := (.int .i64 m)) 140 rfl rfl (by as_aux_lemma => kernel_rfl) (by as_aux_lemma => kernel_rfl) (by as_aux_lemma => kernel_rfl) (fun _ _ _ h => h) (Or.inl ⟨by rfl, fun w hSw => ex_sub (y := .tmp 139) rfl rfl rfl (by omega) hm⟩) (by assumption) ?_
        go_frame
        refine wpAnyH_ready (rs := [11, 14]) (by as_aux_lemma => kernel_rfl) (by simp) ?_
        refine AllReadyH.cons rfl (fun KK hK => ?_) ?_
        · refine stw_load (x := .tmp 137) rfl rfl (by first | exact d2 | exact d2b _) 138 rfl ?_
          refine hK.out _ _ ?_ (fun hHeld => ?_)
          · first | exact d1 | exact d1a | exact hkA _ | exact e3 | exact e4
          clear hK KK
          try go_frame
          refine wpAnyH_ready (rs := [14]) (by as_aux_lemma => kernel_rfl) (by simp) ?_
          refine AllReadyH.cons rfl (fun KK hK => ?_) ?_
          · refine stw_build (x := .tmp 140) rfl rfl 141 rfl ?_
            refine hK.out _ _ ?_ (fun hHeld => ?_)
            · first | exact d1 | exact d1a | exact hkA _ | exact e3 | exact e4
            clear hK KK
            try go_frame
            refine wpAnyH_ready (rs := [15]) (by as_aux_lemma => kernel_rfl) (by simp) ?_
            refine AllReadyH.cons rfl (fun KK hK => ?_) ?_
            · (refine stepw_own (.tmp 138) (.tmp 141) 75 rfl 3 i1 _ 1 8 Try.underlying75 j1 j2 j3 j4 rfl (by decide) (.slice pa n pc) n ((List.replicate n m).map (Value.int .i64)) rfl (owns_fr HL.out.own (below_fr (by with_reducible first | exact HA1.out _ | exact HA0.out _ | exact HA3.out _) (fun _ => False)) (fun _ _ e => e)) wy.heap.size rfl [.int .i64 m] rfl (heap_alloc_new wy.drew _) (by intro u hu; simp at hu; subst hu; rfl) (by unfold maxLen; omega) (by omega) 142 rfl ?_; intro b bc2 w4 h1 h2 h3; have H4' := (by with_reducible first | exact hi4d HH.out HIV.out HQ.out HK.out.2.2.1 HL.out (HA1.out _) h1 h2 h3 | exact hi4d HH.out HIV.out HQ.out HK.out.2.2.1 HL.out (HA0.out _) h1 h2 h3 : Hi4 w3 w4 K k g b bc2 pa n pc im ic kb V); have e1 := H4'.c; have e2 := H4'.f; have e3 := H4'.kc; have e4 := H4'.kd; have HZ : Hid (HI4 w3 (w4.setCell ⟨g, k, none⟩ (.slice (some ⟨b, 0, none⟩) (n + 1) bc2)) K (k + 1) (up V k (.slice (some ⟨b, 0, none⟩) (n + 1) bc2))) := H4'.h; clear h1 h2 h3 H4')
              refine hK.out _ _ ?_ (fun hHeld => ?_)
              · first | exact d1 | exact d1a | exact hkA _ | exact e3 | exact e4
              clear hK KK
              try go_frame
              refine tkH (i := 16) (v := (.pointer (some ⟨g, k, none⟩))) 143 rfl rfl (by as_aux_lemma => kernel_rfl) (by as_aux_lemma => kernel_rfl) (by as_aux_lemma => kernel_rfl) (fun _ _ _ h => h) (Or.inl ⟨by rfl, fun w hSw => ex_index1 (x := .tmp 130) (y := .tmp 131) rfl rfl rfl hlt⟩) (by assumption) ?_
              go_frame
              refine wpAnyH_ready (rs := [17]) (by as_aux_lemma => kernel_rfl) (by simp) ?_
              refine AllReadyH.cons rfl (fun KK hK => ?_) ?_
              · refine stw_store (x := .tmp 143) (y := .tmp 142) rfl rfl rfl e1 e2 rfl ?_
                refine hK.out _ _ ?_ (fun hHeld => ?_)
                · first | exact d1 | exact d1a | exact hkA _ | exact e3 | exact e4
                clear hK KK
                try go_frame
                refine wpAnyH_done (by kernel_rfl) ?_ _
                go_wp2
                exact ⟨⟨k + 1, hlt, rfl, _, HZ.out⟩, by simp [intOf]; omega⟩
              exact AllReadyH.nil
            exact AllReadyH.nil
          exact AllReadyH.nil
        refine AllReadyH.cons rfl (fun KK hK => ?_) ?_
        · refine stw_build (x := .tmp 140) rfl rfl 141 rfl ?_
          refine hK.out _ _ ?_ (fun hHeld => ?_)
          · first | exact d1 | exact d1a | exact hkA _ | exact e3 | exact e4
          clear hK KK
          try go_frame
          refine wpAnyH_ready (rs := [11]) (by as_aux_lemma => kernel_rfl) (by simp) ?_
          refine AllReadyH.cons rfl (fun KK hK => ?_) ?_
          · refine stw_load (x := .tmp 137) rfl rfl (by first | exact d2 | exact d2b _) 138 rfl ?_
            refine hK.out _ _ ?_ (fun hHeld => ?_)
            · first | exact d1 | exact d1a | exact hkA _ | exact e3 | exact e4
            clear hK KK
            try go_frame
            refine wpAnyH_ready (rs := [15]) (by as_aux_lemma => kernel_rfl) (by simp) ?_
            refine AllReadyH.cons rfl (fun KK hK => ?_) ?_
            · (refine stepw_own (.tmp 138) (.tmp 141) 75 rfl 3 i1 _ 1 8 Try.underlying75 j1 j2 j3 j4 rfl (by decide) (.slice pa n pc) n ((List.replicate n m).map (Value.int .i64)) rfl (owns_fr HL.out.own (below_fr (by with_reducible first | exact HA1.out _ | exact HA0.out _ | exact HA3.out _) (fun _ => False)) (fun _ _ e => e)) wy.heap.size rfl [.int .i64 m] rfl (heap_alloc_new wy.drew _) (by intro u hu; simp at hu; subst hu; rfl) (by unfold maxLen; omega) (by omega) 142 rfl ?_; intro b bc2 w4 h1 h2 h3; have H4' := (by with_reducible first | exact hi4d HH.out HIV.out HQ.out HK.out.2.2.1 HL.out (HA1.out _) h1 h2 h3 | exact hi4d HH.out HIV.out HQ.out HK.out.2.2.1 HL.out (HA0.out _) h1 h2 h3 : Hi4 w3 w4 K k g b bc2 pa n pc im ic kb V); have e1 := H4'.c; have e2 := H4'.f; have e3 := H4'.kc; have e4 := H4'.kd; have HZ : Hid (HI4 w3 (w4.setCell ⟨g, k, none⟩ (.slice (some ⟨b, 0, none⟩) (n + 1) bc2)) K (k + 1) (up V k (.slice (some ⟨b, 0, none⟩) (n + 1) bc2))) := H4'.h; clear h1 h2 h3 H4')
              refine hK.out _ _ ?_ (fun hHeld => ?_)
              · first | exact d1 | exact d1a | exact hkA _ | exact e3 | exact e4
              clear hK KK
              try go_frame
              refine tkH (i := 16) (v := (.pointer (some ⟨g, k, none⟩))) 143 rfl rfl (by as_aux_lemma => kernel_rfl) (by as_aux_lemma => kernel_rfl) (by as_aux_lemma => kernel_rfl) (fun _ _ _ h => h) (Or.inl ⟨by rfl, fun w hSw => ex_index1 (x := .tmp 130) (y := .tmp 131) rfl rfl rfl hlt⟩) (by assumption) ?_
              go_frame
              refine wpAnyH_ready (rs := [17]) (by as_aux_lemma => kernel_rfl) (by simp) ?_
              refine AllReadyH.cons rfl (fun KK hK => ?_) ?_
              · refine stw_store (x := .tmp 143) (y := .tmp 142) rfl rfl rfl e1 e2 rfl ?_
                refine hK.out _ _ ?_ (fun hHeld => ?_)
                · first | exact d1 | exact d1a | exact hkA _ | exact e3 | exact e4
                clear hK KK
                try go_frame
                refine wpAnyH_done (by kernel_rfl) ?_ _
                go_wp2
                exact ⟨⟨k + 1, hlt, rfl, _, HZ.out⟩, by simp [intOf]; omega⟩
              exact AllReadyH.nil
            exact AllReadyH.nil
          exact AllReadyH.nil
        exact AllReadyH.nil
      · have hkn : k = im := by omega
        subst hkn
        go_wp2
        go_meet
        exact ⟨V, HH.out⟩
  case rest =>
  obtain ⟨V4, h4⟩ := hcut
  obtain ⟨w4, hw4⟩ : ∃ w4, wc = w4 := ⟨_, rfl⟩
  rw [hw4] at h4 ⊢
  have HH4 : Hid (HI4 w3 w4 K im V4) := h4
  clear h4 hw4
  have HI5 : Hid (LV 51 1 86 3 w4 K.av K.am (fun i => [K.aV i]) K.aV K.aM K.aC ∧ w4.heap[kb]? = some (.cells K.cells 41 (0, 0))) := HH4.out.rest HI3.out
  have c3 : w4.cell? ⟨kb, 3, none⟩ = some (.slice aa am ac) := by rw [← HK.out.2.2.2.2.2.2.1]; exact cell_of_row _ _ 3 _ _ _ HI5.out.2
  go_upto_block 10 with (fail)
  clear c3
  go_cut [10, 11, 150, 151, 152, 153, 154, 155, 156, 157, 158, 159, 160, 161, 162, 163, 164, 165, 166, 167, 168, 169, 170, 171, 172, 173, 174, 175, 176, 177, 178, 179, 180, 181, 182, 183, 184, 185, 186, 187, 188, 189, 190, 191, 192, 193, 194, 195] (fun _ _ _ _ _ _ _ _ _ _ _ _ _ _ _ _ _ _ _ _ _ _ _ _ _ _ _ _ _ _ _ _ _ _ _ _ _ _ _ _ _ _ _ _ _ _ _ _ wx => ∃ V, HA4 w4 wx K am V)
  case first =>
    go_wp2
    go_loopw [10, 11, 150, 151, 152, 153, 154, 155, 156, 157, 158, 159, 160, 161, 162, 163, 164, 165, 166, 167, 168, 169, 170, 171, 172, 173, 174, 175, 176, 177, 178, 179, 180, 181, 182, 183, 184, 185, 186, 187, 188, 189, 190, 191, 192, 193, 194, 195] (fun _ _ i _ _ _ _ _ _ _ _ _ _ _ _ _ _ _ _ _ _ _ _ _ _ _ _ _ _ _ _ _ _ _ _ _ _ _ _ _ _ _ _ _ _ _ _ _ wr => ∃ k : Nat, k ≤ am ∧ i = .int .i64 k ∧ ∃ V, HA4 w4 wr K k V) (fun _ _ i _ _ _ _ _ _ _ _ _ _ _ _ _ _ _ _ _ _ _ _ _ _ _ _ _ _ _ _ _ _ _ _ _ _ _ _ _ _ _ _ _ _ _ _ _ _ => am - (intOf i).toNat)
    case atStart => exact ⟨0, Nat.zero_le _, rfl, _, H4.zero HI5.out.1⟩
    case round =>
      obtain ⟨k, hk, rfl, V, hH⟩ := hrel
      obtain ⟨wo, hwo⟩ : ∃ wo, wr = wo := ⟨_, rfl⟩
      rw [hwo] at hH ⊢
      clear hwo
      have HH : Hid (HA4 w4 wo K k V) := hH
      clear hH
      by_cases hlt : k < am
      · have hki : k < K.am := by rw [HK.out.2.2.2.1]; exact hlt
        obtain ⟨g, pa, n, pc, x, m, ic', hiv, hq⟩ := HA4.open HK2.out HI5.out.1 HH.out HI5.out.2 hki
        have hiv2 := hiv
        rw [HK.out.2.2.2.2.2.2.1, HK.out.2.2.2.1] at hiv2
        cases hiv2
        have HIV : Hid (K.av = .slice (some ⟨g, 0, none⟩) K.am ac ∧ k < K.am) := ⟨hiv, hki⟩
        clear hiv hki
        have HQ : Hid (AqS w4 wo K k g am ac kb pa n pc x m) := by
          have e := hq
          rw [HK.out.2.2.2.1] at e
          exact e
        clear hq
        have hn1 := HQ.out.nl
        have d1 := HQ.out.kc
        have d2 := HQ.out.gc
        have hm : (-1000 : Int) - (k : Int) = m := HQ.out.me
        go_upto_block 12 with (fail)
        go_cut [11, 161, 162, 163, 164, 165, 166, 167, 168, 169, 170, 171, 172, 173, 174, 175, 176] (fun _ _ _ _ _ _ _ _ _ _ _ _ _ _ _ _ _ wx => AqL wo wx pa n pc (mk3 n m x))
        case first =>
          go_wp2
          go_loopw [11, 161, 162, 163, 164, 165, 166, 167, 168, 169, 170, 171, 172, 173, 174, 175, 176] (fun _ i _ _ _ _ _ _ _ _ _ _ _ _ _ _ _ wy => ∃ r : Nat, r ≤ n ∧ i = .int .i64 r ∧ AqL wo wy pa n pc (mk3 r m x)) (fun _ i _ _ _ _ _ _ _ _ _ _ _ _ _ _ _ _ => n - (intOf i).toNat)
          case atStart => exact ⟨0, Nat.zero_le _, rfl, HQ.out.zero⟩
          case round =>
            obtain ⟨r, hr, rfl, hL⟩ := hrel
            obtain ⟨wy, hwy⟩ : ∃ wy, wr = wy := ⟨_, rfl⟩
            rw [hwy] at hL ⊢
            have HL : Hid (AqL wo wy pa n pc (mk3 r m x)) := hL
            clear hL d1 d2
            by_cases hlr : r < n
            · obtain ⟨p, rfl⟩ := HQ.out.pf.resolve_left (by omega)
              obtain ⟨d1, d2, _⟩ := HQ.out.keep HL.out
              obtain ⟨z0, z1, z2, dz0, dz1, dz2⟩ := HL.out.cell hlr
              have fz0 := HL.out.own.frozenAt (r * 3)
              have fz1 := HL.out.own.frozenAt (r * 3 + 1)
              have fz2 := HL.out.own.frozenAt (r * 3 + 2)
              have HN : Hid (AqL wo (w3s wy p r m) (some ⟨p, 0, none⟩) n pc (mk3 (r + 1) m x)) := HL.out.next
              go_wp2
              exact ⟨⟨r + 1, hlr, rfl, HN.out⟩, by simp [intOf]; omega⟩
            · have hrn : r = n := by omega
              subst hrn
              go_wp2
              go_meet
              exact HL.out
        case rest =>
        obtain ⟨wy, hwy⟩ : ∃ wy, wc = wy := ⟨_, rfl⟩
        rw [hwy] at hcut ⊢
        have HL : Hid (AqL wo wy pa n pc (mk3 n m x)) := hcut
        clear hcut hwy d1 d2
        obtain ⟨d1, d2, _⟩ := HQ.out.keep HL.out
        obtain ⟨i1, j1, j2, j3, j4⟩ := info_parts infoAct
        have HA1 : Hid (∀ o, Below wy.heap.size wy (wy.drew.alloc o)) := fun o => (Below.refl wy.heap.size wy).drew.alloc (Nat.le_refl _) o
        have hkA : ∀ o, S3h kb (.slice (some ⟨g, 0, none⟩) am ac) (wy.drew.alloc o) := fun o => (fr_alloc (fun _ => False) wy.drew o).cell d1 (fun e => e)
        have d2b : ∀ o, (wy.drew.alloc o).cell? ⟨g, k, none⟩ = some (.slice pa n pc) := fun o => (fr_alloc (fun _ => False) wy.drew o).cell d2 (fun e => e)
        go_upto_region 41 with fail
        refine wp_region_held_drew (S := S3h kb (.slice (some ⟨g, 0, none⟩) am ac)) (by as_aux_lemma => kernel_rfl) ?_ (fun hHeld => ?_)
        · first | exact d1 | exact hkA _ | exact e3 | exact e4
        have h19 : Array.replicate 19 false = #[false, false, false, false, false, false, false, false, false, false, false, false, false, false, false, false, false, false, false] := rfl
        simp only [List.size_toArray, List.length_cons, List.length_nil, Nat.reduceAdd, h19]
        refine tkH (i := 0) (v := (.pointer (some ⟨kb, 0, none⟩))) 177 rfl rfl (by as_aux_lemma => kernel_rfl) (by as_aux_lemma => kernel_rfl) (by as_aux_lemma => kernel_rfl) (fun _ _ _ h => h) (Or.inl ⟨by rfl, fun w hSw => ex_move (x := .tmp 0) rfl rfl⟩) (by assumption) ?_
        go_frame
        refine tkH (i := 1) (v := (.pointer (some ⟨kb, 0, none⟩))) 178 rfl rfl (by as_aux_lemma => kernel_rfl) (by as_aux_lemma => kernel_rfl) (by as_aux_lemma => kernel_rfl) (fun _ _ _ h => h) (Or.inl ⟨by rfl, fun w hSw => ex_nil (x := .tmp 177) rfl rfl⟩) (by assumption) ?_
        go_frame
        refine tkH (i := 2) (v := (.pointer (some ⟨kb, 3, none⟩))) 179 rfl rfl (by as_aux_lemma => kernel_rfl) (by as_aux_lemma => kernel_rfl) (by as_aux_lemma => kernel_rfl) (fun _ _ _ h => h) (Or.inl ⟨by rfl, fun w hSw => ex_field3 (x := .tmp 178) rfl rfl⟩) (by assumption) ?_
        go_frame
        refine tkH (i := 3) (v := (.slice (some ⟨g, 0, none⟩) am ac)) 180 rfl rfl (by as_aux_lemma => kernel_rfl) (by as_aux_lemma => kernel_rfl) (by as_aux_lemma => kernel_rfl) (fun _ _ _ h => h) (Or.inl ⟨by rfl, fun w hSw => ex_load3 (x := .tmp 179) rfl rfl hSw⟩) (by assumption) ?_
        go_frame
        refine tkH (i := 4) (v := (.int .i64 (k : Int))) 181 rfl rfl (by as_aux_lemma => kernel_rfl) (by as_aux_lemma => kernel_rfl) (by as_aux_lemma => kernel_rfl) (fun _ _ _ h => h) (Or.inl ⟨by rfl, fun w hSw => ex_move (x := .tmp 10) rfl rfl⟩) (by assumption) ?_
        go_frame
        refine tkH (i := 5) (v := (.pointer (some ⟨kb, 0, none⟩))) 182 rfl rfl (by as_aux_lemma => kernel_rfl) (by as_aux_lemma => kernel_rfl) (by as_aux_lemma => kernel_rfl) (fun _ _ _ h => h) (Or.inl ⟨by rfl, fun w hSw => ex_move (x := .tmp 0) rfl rfl⟩) (by assumption) ?_
        go_frame
        refine tkH (i := 6) (v := (.pointer (some ⟨kb, 0, none⟩))) 183 rfl rfl (by as_aux_lemma => kernel_rfl) (by as_aux_lemma => kernel_rfl) (by as_aux_lemma => kernel_rfl) (fun _ _ _ h => h) (Or.inl ⟨by rfl, fun w hSw => ex_nil (x := .tmp 182) rfl rfl⟩) (by assumption) ?_
        go_frame
        refine tkH (i := 7) (v := (.pointer (some ⟨kb, 3, none⟩))) 184 rfl rfl (by as_aux_lemma => kernel_rfl) (by as_aux_lemma => kernel_rfl) (by as_aux_lemma => kernel_rfl) (fun _ _ _ h => h) (Or.inl ⟨by rfl, fun w hSw => ex_field3 (x := .tmp 183) rfl rfl⟩) (by assumption) ?_
        go_frame
        refine tkH (i := 8) (v := (.slice (some ⟨g, 0, none⟩) am ac)) 185 rfl rfl (by as_aux_lemma => kernel_rfl) (by as_aux_lemma => kernel_rfl) (by as_aux_lemma => kernel_rfl) (fun _ _ _ h => h) (Or.inl ⟨by rfl, fun w hSw => ex_load3 (x := .tmp 184) rfl rfl hSw⟩) (by assumption) ?_
        go_frame
        refine tkH (i := 9) (v := (.int .i64 (k : Int))) 186 rfl rfl (by as_aux_lemma => kernel_rfl) (by as_aux_lemma => kernel_rfl) (by as_aux_lemma => kernel_rfl) (fun _ _ _ h => h) (Or.inl ⟨by rfl, fun w hSw => ex_move (x := .tmp 10) rfl rfl⟩) (by assumption) ?_
        go_frame
        refine tkH (i := 10) (v := (.pointer (some ⟨g, k, none⟩))) 187 rfl rfl (by as_aux_lemma => kernel_rfl) (by as_aux_lemma => kernel_rfl) (by as_aux_lemma => kernel_rfl) (fun _ _ _ h => h) (Or.inl ⟨by rfl, fun w hSw => ex_index3 (x := .tmp 185) (y := .tmp 186) rfl rfl rfl hlt⟩) (by assumption) ?_
        go_frame
        refine tkH (i := 12) (v := (.int .i64 (k : Int))) 189 rfl rfl (by as_aux_lemma => kernel_rfl) (by as_aux_lemma => kernel_rfl) (by as_aux_lemma => kernel_rfl) (fun _ _ _ h => h) (Or.inl ⟨by rfl, fun w hSw => ex_move (x := .tmp 10) rfl rfl⟩) (by assumption) ?_
        go_frame
        refine tkH (i := 13) (v := (.int .i64 m)) 190 rfl rfl (by as_aux_lemma => kernel_rfl) (by as_aux_lemma => kernel_rfl) (by as_aux_lemma => kernel_rfl) (fun _ _ _ h => h) (Or.inl ⟨by rfl, fun w hSw => ex_sub (y := .tmp 189) rfl rfl rfl (by omega) hm⟩) (by assumption) ?_
        go_frame
        refine tkH (i := 14) (v := (.agg #[.int .i64 m, .int .i64 0, .slice none 0 0])) 191 rfl rfl (by as_aux_lemma => kernel_rfl) (by as_aux_lemma => kernel_rfl) (by as_aux_lemma => kernel_rfl) (fun _ _ _ h => h) (Or.inl ⟨by rfl, fun w hSw => ex_build (x := .tmp 190) rfl rfl⟩) (by assumption) ?_
        go_frame
        refine wpAnyH_ready (rs := [11, 15]) (by as_aux_lemma => kernel_rfl) (by simp) ?_
        refine AllReadyH.cons rfl (fun KK hK => ?_) ?_
        · refine sta_load (x := .tmp 187) rfl rfl (by first | exact d2 | exact d2b _) 188 rfl ?_
          refine hK.out _ _ ?_ (fun hHeld => ?_)
          · first | exact d1 | exact hkA _ | exact e3 | exact e4
          clear hK KK
          try go_frame
          refine wpAnyH_ready (rs := [15]) (by as_aux_lemma => kernel_rfl) (by simp) ?_
          refine AllReadyH.cons rfl (fun KK hK => ?_) ?_
          · refine sta_build (x := .tmp 191) rfl rfl 192 rfl ?_
            refine hK.out _ _ ?_ (fun hHeld => ?_)
            · first | exact d1 | exact hkA _ | exact e3 | exact e4
            clear hK KK
            try go_frame
            refine wpAnyH_ready (rs := [16]) (by as_aux_lemma => kernel_rfl) (by simp) ?_
            refine AllReadyH.cons rfl (fun KK hK => ?_) ?_
            · (refine stepw_own (.tmp 188) (.tmp 192) 51 rfl 86 i1 _ 3 40 Try.underlying51 j1 j2 j3 j4 rfl (by decide) (.slice pa n pc) n (mk3 n m x) rfl (owns_fr HL.out.own (below_fr (HA1.out _) (fun _ => False)) (fun _ _ e => e)) wy.heap.size rfl [.int .i64 m, .int .i64 0, .slice none 0 0] rfl (heap_alloc_new wy.drew _) (by intro u hu; simp at hu; rcases hu with rfl | rfl | rfl <;> rfl) (by unfold maxLen; omega) (by omega) 193 rfl ?_; intro b bc2 w5 h1 h2 h3; have H4' : Hi6 w4 w5 K k g b bc2 pa n pc am ac kb V := hi6d HH.out HIV.out HQ.out HK.out.2.2.2.1 HL.out (HA1.out _) h1 h2 h3; have e1 := H4'.c; have e2 := H4'.f; have e3 := H4'.kc; have e4 := H4'.kd; have HZ : Hid (HA4 w4 (w5.setCell ⟨g, k, none⟩ (.slice (some ⟨b, 0, none⟩) (n + 1) bc2)) K (k + 1) (up V k (.slice (some ⟨b, 0, none⟩) (n + 1) bc2))) := H4'.h; clear h1 h2 h3 H4')
              refine hK.out _ _ ?_ (fun hHeld => ?_)
              · first | exact d1 | exact hkA _ | exact e3 | exact e4
              clear hK KK
              try go_frame
              refine tkH (i := 17) (v := (.pointer (some ⟨g, k, none⟩))) 194 rfl rfl (by as_aux_lemma => kernel_rfl) (by as_aux_lemma => kernel_rfl) (by as_aux_lemma => kernel_rfl) (fun _ _ _ h => h) (Or.inl ⟨by rfl, fun w hSw => ex_index3 (x := .tmp 180) (y := .tmp 181) rfl rfl rfl hlt⟩) (by assumption) ?_
              go_frame
              refine wpAnyH_ready (rs := [18]) (by as_aux_lemma => kernel_rfl) (by simp) ?_
              refine AllReadyH.cons rfl (fun KK hK => ?_) ?_
              · refine sta_store (x := .tmp 194) (y := .tmp 193) rfl rfl rfl e1 e2 rfl ?_
                refine hK.out _ _ ?_ (fun hHeld => ?_)
                · first | exact d1 | exact hkA _ | exact e3 | exact e4
                clear hK KK
                try go_frame
                refine wpAnyH_done (by kernel_rfl) ?_ _
                go_wp2
                exact ⟨⟨k + 1, hlt, rfl, _, HZ.out⟩, by simp [intOf]; omega⟩
              exact AllReadyH.nil
            exact AllReadyH.nil
          exact AllReadyH.nil
        refine AllReadyH.cons rfl (fun KK hK => ?_) ?_
        · refine sta_build (x := .tmp 191) rfl rfl 192 rfl ?_
          refine hK.out _ _ ?_ (fun hHeld => ?_)
          · first | exact d1 | exact hkA _ | exact e3 | exact e4
          clear hK KK
          try go_frame
          refine wpAnyH_ready (rs := [11]) (by as_aux_lemma => kernel_rfl) (by simp) ?_
          refine AllReadyH.cons rfl (fun KK hK => ?_) ?_
          · refine sta_load (x := .tmp 187) rfl rfl (by first | exact d2 | exact d2b _) 188 rfl ?_
            refine hK.out _ _ ?_ (fun hHeld => ?_)
            · first | exact d1 | exact hkA _ | exact e3 | exact e4
            clear hK KK
            try go_frame
            refine wpAnyH_ready (rs := [16]) (by as_aux_lemma => kernel_rfl) (by simp) ?_
            refine AllReadyH.cons rfl (fun KK hK => ?_) ?_
            · (refine stepw_own (.tmp 188) (.tmp 192) 51 rfl 86 i1 _ 3 40 Try.underlying51 j1 j2 j3 j4 rfl (by decide) (.slice pa n pc) n (mk3 n m x) rfl (owns_fr HL.out.own (below_fr (HA1.out _) (fun _ => False)) (fun _ _ e => e)) wy.heap.size rfl [.int .i64 m, .int .i64 0, .slice none 0 0] rfl (heap_alloc_new wy.drew _) (by intro u hu; simp at hu; rcases hu with rfl | rfl | rfl <;> rfl) (by unfold maxLen; omega) (by omega) 193 rfl ?_; intro b bc2 w5 h1 h2 h3; have H4' : Hi6 w4 w5 K k g b bc2 pa n pc am ac kb V := hi6d HH.out HIV.out HQ.out HK.out.2.2.2.1 HL.out (HA1.out _) h1 h2 h3; have e1 := H4'.c; have e2 := H4'.f; have e3 := H4'.kc; have e4 := H4'.kd; have HZ : Hid (HA4 w4 (w5.setCell ⟨g, k, none⟩ (.slice (some ⟨b, 0, none⟩) (n + 1) bc2)) K (k + 1) (up V k (.slice (some ⟨b, 0, none⟩) (n + 1) bc2))) := H4'.h; clear h1 h2 h3 H4')
              refine hK.out _ _ ?_ (fun hHeld => ?_)
              · first | exact d1 | exact hkA _ | exact e3 | exact e4
              clear hK KK
              try go_frame
              refine tkH (i := 17) (v := (.pointer (some ⟨g, k, none⟩))) 194 rfl rfl (by as_aux_lemma => kernel_rfl) (by as_aux_lemma => kernel_rfl) (by as_aux_lemma => kernel_rfl) (fun _ _ _ h => h) (Or.inl ⟨by rfl, fun w hSw => ex_index3 (x := .tmp 180) (y := .tmp 181) rfl rfl rfl hlt⟩) (by assumption) ?_
              go_frame
              refine wpAnyH_ready (rs := [18]) (by as_aux_lemma => kernel_rfl) (by simp) ?_
              refine AllReadyH.cons rfl (fun KK hK => ?_) ?_
              · refine sta_store (x := .tmp 194) (y := .tmp 193) rfl rfl rfl e1 e2 rfl ?_
                refine hK.out _ _ ?_ (fun hHeld => ?_)
                · first | exact d1 | exact hkA _ | exact e3 | exact e4
                clear hK KK
                try go_frame
                refine wpAnyH_done (by kernel_rfl) ?_ _
                go_wp2
                exact ⟨⟨k + 1, hlt, rfl, _, HZ.out⟩, by simp [intOf]; omega⟩
              exact AllReadyH.nil
            exact AllReadyH.nil
          exact AllReadyH.nil
        exact AllReadyH.nil
      · have hkn : k = am := by omega
        subst hkn
        go_wp2
        go_meet
        exact ⟨V, HH.out⟩
  case rest =>
  obtain ⟨V6, h6⟩ := hcut
  obtain ⟨w6, hw6⟩ : ∃ w6, wc = w6 := ⟨_, rfl⟩
  rw [hw6] at h6 ⊢
  obtain ⟨hF, hFr⟩ := HF.of HK2.out (by rw [HK.out.2.2.2.2.1]; exact HH3.out) HK.out.2.1 (by rw [HK.out.2.2.1]; exact HH4.out) (by rw [HK.out.2.2.2.1]; exact h6)
  have HF6 : Hid (HF w6 K kb lv V3 V4 V6) := hF
  have HFr : Hid (Fr K.all w w6) := (below_fr HB2.out _).trans hFr (fun k e => .inl e)
  have HKl : Hid (∀ j, j < K.am → (K.aC j).length = K.aM j * 3) := fun j hj => (HK2.out.a.ls j hj).1
  have hlvl : ∃ la lc, lv = .slice la bn lc ∧ bn ≤ lc := by
    obtain ⟨la, lc, e1, e2, _⟩ := owns_slice hF.nl.row
    rw [HK.out.2.2.2.2.1] at e1 e2
    exact ⟨la, lc, e1, e2⟩
  obtain ⟨la, lc, rfl, hlcc⟩ := hlvl
  have HBx : Hid (∀ k, k < bn → (K.bX k).length ≤ 10000000) := fun k hk => (HK2.out.bx k (by rw [HK.out.2.2.2.2.1]; exact hk)).1
  have HIx : Hid (∀ k, k < im → (K.iX k).length ≤ 10000000) := fun k hk => HK2.out.ix k (by rw [HK.out.2.2.1]; exact hk)
  have HAx : Hid (∀ k, k < am → K.aM k ≤ 10000000) := fun k hk => HK2.out.am k (by rw [HK.out.2.2.2.1]; exact hk)
  clear hF hFr h6 hw6 HI5 HH4 HI3 HH3 HB2 HK2
  go_upto_block 14 with (fail)
  go_cut [13, 15, 198, 199, 200, 201, 202, 203, 204, 205, 206, 207, 208, 209, 210, 211, 212, 213, 214, 215, 216, 217, 218, 219, 220, 221] (fun _ _ _ _ _ _ _ _ _ _ _ _ _ _ _ _ _ _ _ _ _ _ _ _ _ _ wx => Below w6.heap.size w6 wx)
  case first =>
    go_wp2
    go_loopw [13, 15, 198, 199, 200, 201, 202, 203, 204, 205, 206, 207, 208, 209, 210, 211, 212, 213, 214, 215, 216, 217, 218, 219, 220, 221] (fun _ _ i _ _ _ _ _ _ _ _ _ _ _ _ _ _ _ _ _ _ _ _ _ _ _ wr => ∃ k : Nat, k ≤ bn ∧ i = .int .i64 k ∧ Below w6.heap.size w6 wr) (fun _ _ i _ _ _ _ _ _ _ _ _ _ _ _ _ _ _ _ _ _ _ _ _ _ _ _ => bn - (intOf i).toNat)
    case atStart => exact ⟨0, Nat.zero_le _, rfl, Below.refl _ _⟩
    case round =>
      obtain ⟨k, hk, rfl, hb⟩ := hrel
      obtain ⟨wo, hwo⟩ : ∃ wo, wr = wo := ⟨_, rfl⟩
      rw [hwo] at hb ⊢
      clear hwo
      have HB : Hid (Below w6.heap.size w6 wo) := hb
      clear hb
      by_cases hlt : k < bn
      · have hkb : k < K.bn := by rw [HK.out.2.2.2.2.1]; exact hlt
        obtain ⟨g, cap, p, pc, n, m, e, hn, h2, h3, d0, d1, d2, d3, d4, dr⟩ := (HF6.out.on HB.out).bcells hkb
        rw [HK.out.2.2.2.2.1] at e
        cases e
        have hn1 : n ≤ 10000000 := by rw [← hn]; exact HBx.out k hlt
        obtain ⟨x, hx⟩ : ∃ x, strOfNums (K.bX k) = x := ⟨_, rfl⟩
        obtain ⟨kp, hkp⟩ : ∃ kp, decide (k % 2 = 0) = kp := ⟨_, rfl⟩
        rw [hx] at d3
        rw [hkp] at d4
        have HD : Hid (∀ w', Below wo.heap.size wo w' → ∀ r, r < n + 3 → w'.cell? ⟨p, r, none⟩ = some (.int .u8 m)) := dr
        clear dr hn h2 hkb hx hkp
        obtain ⟨P, hP⟩ : ∃ P, wo.heap.size = P := ⟨_, rfl⟩
        go_upto_region 46 with fail
        obtain ⟨wP, hwP⟩ : ∃ wP, wo.alloc (.cells #[.slice (some ⟨p, 0, none⟩) (n + 3) pc, .int .i64 (n : Int), .int .u8 m, .string x, .bool kp] 83) = wP := ⟨_, rfl⟩
        have HP : Hid (Below wo.heap.size wo wP ∧ wP.heap[P]? = some (.cells #[.slice (some ⟨p, 0, none⟩) (n + 3) pc, .int .i64 (n : Int), .int .u8 m, .string x, .bool kp] 83 (0, 0))) := by
          rw [← hwP, ← hP]; exact ⟨(Below.refl _ _).alloc (Nat.le_refl _) _, heap_alloc_new _ _⟩
        try rw [hP]
        rw [hwP]
        clear hwP d0 d1 d2 d3 d4
        have p0 : wP.cell? ⟨P, 0, none⟩ = some (.slice (some ⟨p, 0, none⟩) (n + 3) pc) := cell_of_row _ _ 0 _ _ _ HP.out.2
        have p1 : wP.cell? ⟨P, 1, none⟩ = some (.int .i64 (n : Int)) := cell_of_row _ _ 1 _ _ _ HP.out.2
        have p2 : wP.cell? ⟨P, 2, none⟩ = some (.int .u8 m) := cell_of_row _ _ 2 _ _ _ HP.out.2
        go_upto_block 16 with (fail)
        go_cut [15, 205, 206, 207, 208, 209, 210, 211, 212, 213] (fun _ _ _ _ _ _ _ _ _ _ wx => wx = wP)
        case first =>
          go_wp2
          go_loopw [15, 205, 206, 207, 208, 209, 210, 211, 212, 213] (fun _ i _ _ _ _ _ _ _ _ wy => ∃ r : Nat, r ≤ n + 3 ∧ i = .int .i64 r ∧ wy = wP) (fun _ i _ _ _ _ _ _ _ _ _ => n + 3 - (intOf i).toNat)
          case atStart => exact ⟨0, Nat.zero_le _, rfl, rfl⟩
          case round =>
            obtain ⟨r, hr, rfl, hb⟩ := hrel
            rw [hb]
            clear hb
            by_cases hlr : r < n + 3
            · have dz := HD.out wP HP.out.1 r hlr
              have hlr2 : (r : Int) < (n : Int) + 3 := by omega
              go_wp2
              exact ⟨⟨r + 1, hlr, rfl, by first | rfl | trivial⟩, by simp [intOf]; omega⟩
            · have hrn : r = n + 3 := by omega
              subst hrn
              go_wp2
              go_meet
              rfl
        case rest =>
        obtain ⟨wz, hwz⟩ : ∃ wz, wc = wz := ⟨_, rfl⟩
        rw [hwz] at hcut ⊢
        subst hcut
        go_wp2
        exact ⟨⟨k + 1, hlt, rfl, HB.out.trans (HP.out.1.mono HB.out.size)⟩, by simp [intOf]; omega⟩
      · have hkn : k = bn := by omega
        subst hkn
        go_wp2
        go_meet
        exact HB.out
  case rest =>
  obtain ⟨w8, hw8⟩ : ∃ w8, wc = w8 := ⟨_, rfl⟩
  rw [hw8] at hcut ⊢
  have HB8 : Hid (Below w6.heap.size w6 w8) := hcut
  have HF8 : Hid (HF w8 K kb (.slice la bn lc) V3 V4 V6) := HF6.out.on hcut
  clear hcut hw8
  have c1 : w8.cell? ⟨kb, 1, none⟩ = some (.slice ia im ic) := by rw [← HK.out.2.2.2.2.2.1]; exact cell_of_row _ _ 1 _ _ _ HF8.out.box
  go_upto_block 18 with (fail)
  clear c1
  go_cut [16, 18, 227, 228, 229, 230, 231, 232, 233, 234, 235, 236, 237, 238, 239, 240, 241, 242, 243, 244, 245, 246, 247] (fun _ _ _ _ _ _ _ _ _ _ _ _ _ _ _ _ _ _ _ _ _ _ _ wx => wx = w8)
  case first =>
    go_wp2
    go_loopw [16, 18, 227, 228, 229, 230, 231, 232, 233, 234, 235, 236, 237, 238, 239, 240, 241, 242, 243, 244, 245, 246, 247] (fun _ _ i _ _ _ _ _ _ _ _ _ _ _ _ _ _ _ _ _ _ _ _ wr => ∃ k : Nat, k ≤ im ∧ i = .int .i64 k ∧ wr = w8) (fun _ _ i _ _ _ _ _ _ _ _ _ _ _ _ _ _ _ _ _ _ _ _ _ => im - (intOf i).toNat)
    case atStart => exact ⟨0, Nat.zero_le _, rfl, rfl⟩
    case round =>
      obtain ⟨k, hk, rfl, hb⟩ := hrel
      rw [hb]
      clear hb
      by_cases hlt : k < im
      · have hki : k < K.im := by rw [HK.out.2.2.1]; exact hlt
        obtain ⟨g, cap, p, pc, n, m, e, hn, hm, h2, h3, d0, d1, dr⟩ := HF8.out.icells hki
        rw [HK.out.2.2.2.2.2.1, HK.out.2.2.1] at e
        cases e
        rw [HK.out.2.2.1] at d0 h2
        have hn1 : n ≤ 10000000 := by rw [← hn]; exact HIx.out k hlt
        have HD : Hid (∀ r, r < n + 1 → w8.cell? ⟨p, r, none⟩ = some (.int .i64 m)) := dr
        clear dr hn hki
        go_upto_block 20 with (fail)
        clear d0 d1
        go_wp2
        go_loopw [18, 238, 239, 240, 241, 242, 243, 244, 245, 246] (fun _ i _ _ _ _ _ _ _ _ wy => ∃ r : Nat, r ≤ n + 1 ∧ i = .int .i64 r ∧ wy = w8) (fun _ i _ _ _ _ _ _ _ _ _ => n + 1 - (intOf i).toNat)
        case atStart => exact ⟨0, Nat.zero_le _, rfl, rfl⟩
        case round =>
          obtain ⟨r, hr, rfl, hb⟩ := hrel
          rw [hb]
          clear hb
          by_cases hlr : r < n + 1
          · have dz := HD.out r hlr
            have hlr2 : (r : Int) < (n : Int) + 1 := by omega
            go_wp2
            exact ⟨⟨r + 1, hlr, rfl, by first | rfl | trivial⟩, by simp [intOf]; omega⟩
          · have hlr2 : ¬ (r : Int) < (n : Int) + 1 := by omega
            go_wp2
            exact ⟨⟨k + 1, hlt, rfl, by first | rfl | trivial⟩, by simp [intOf]; omega⟩
      · have hkn : k = im := by omega
        subst hkn
        go_wp2
        go_meet
        rfl
  case rest =>
  rw [hcut]
  clear hcut
  have c3 : w8.cell? ⟨kb, 3, none⟩ = some (.slice aa am ac) := by rw [← HK.out.2.2.2.2.2.2.1]; exact cell_of_row _ _ 3 _ _ _ HF8.out.box
  go_upto_block 22 with (fail)
  clear c3
  go_cut [19, 21, 253, 254, 255, 256, 257, 258, 259, 260, 261, 262, 263, 264, 265, 266, 267, 268, 269, 270, 271, 272, 273, 274] (fun _ _ _ _ _ _ _ _ _ _ _ _ _ _ _ _ _ _ _ _ _ _ _ _ wx => Below w8.heap.size w8 wx)
  case first =>
    go_wp2
    go_loopw [19, 21, 253, 254, 255, 256, 257, 258, 259, 260, 261, 262, 263, 264, 265, 266, 267, 268, 269, 270, 271, 272, 273, 274] (fun _ _ i _ _ _ _ _ _ _ _ _ _ _ _ _ _ _ _ _ _ _ _ _ wr => ∃ k : Nat, k ≤ am ∧ i = .int .i64 k ∧ Below w8.heap.size w8 wr) (fun _ _ i _ _ _ _ _ _ _ _ _ _ _ _ _ _ _ _ _ _ _ _ _ _ => am - (intOf i).toNat)
    case atStart => exact ⟨0, Nat.zero_le _, rfl, Below.refl _ _⟩
    case round =>
      obtain ⟨k, hk, rfl, hb⟩ := hrel
      obtain ⟨wo, hwo⟩ : ∃ wo, wr = wo := ⟨_, rfl⟩
      rw [hwo] at hb ⊢
      clear hwo
      have HB : Hid (Below w8.heap.size w8 wo) := hb
      clear hb
      by_cases hlt : k < am
      · have hki : k < K.am := by rw [HK.out.2.2.2.1]; exact hlt
        obtain ⟨g, cap, p, pc, n, m, e, hn, hm, h2, h3, d0, d1, dr⟩ := (HF8.out.on HB.out).acells HKl.out hki
        rw [HK.out.2.2.2.2.2.2.1, HK.out.2.2.2.1] at e
        cases e
        rw [HK.out.2.2.2.1] at d0 h2
        have hn1 : n ≤ 10000000 := by rw [← hn]; exact HAx.out k hlt
        have HD : Hid (∀ w', Below wo.heap.size wo w' → ∀ r, r < n + 1 → w'.cell? ⟨p, r * 3, none⟩ = some (.int .i64 m) ∧ w'.cell? ⟨p, r * 3 + 1, none⟩ = some (.int .i64 0) ∧ w'.cell? ⟨p, r * 3 + 2, none⟩ = some (.slice none 0 0)) := dr
        clear dr hn hki
        go_upto_block 24 with (fail)
        clear d0 d1
        go_wp2
        go_loopw [21, 264, 265, 266, 267, 268, 269, 270, 271, 272, 273] (fun _ i _ _ _ _ _ _ _ _ _ wy => ∃ r : Nat, r ≤ n + 1 ∧ i = .int .i64 r ∧ Below wo.heap.size wo wy) (fun _ i _ _ _ _ _ _ _ _ _ _ => n + 1 - (intOf i).toNat)
        case atStart => exact ⟨0, Nat.zero_le _, rfl, Below.refl _ _⟩
        case round =>
          obtain ⟨r, hr, rfl, hb⟩ := hrel
          obtain ⟨wy, hwy⟩ : ∃ wy, wr = wy := ⟨_, rfl⟩
          rw [hwy] at hb ⊢
          clear hwy
          have HY : Hid (Below wo.heap.size wo wy) := hb
          clear hb
          by_cases hlr : r < n + 1
          · obtain ⟨dz0, dz1, dz2⟩ := HD.out wy HY.out r hlr
            have hlr2 : (r : Int) < (n : Int) + 1 := by omega
            have HAl : Hid (∀ o, Below wo.heap.size wo (wy.alloc o)) := fun o => HY.out.alloc HY.out.size o
            go_wp2
            exact ⟨⟨r + 1, hlr, rfl, HAl.out _⟩, by simp [intOf]; omega⟩
          · have hlr2 : ¬ (r : Int) < (n : Int) + 1 := by omega
            go_wp2
            exact ⟨⟨k + 1, hlt, rfl, HB.out.trans (HY.out.mono HB.out.size)⟩, by simp [intOf]; omega⟩
      · have hkn : k = am := by omega
        subst hkn
        go_wp2
        go_meet
        exact HB.out
  case rest =>
  go_wp2
  go_ret
  exact ⟨rfl, (HFr.out.trans (below_fr HB8.out (fun _ => False)) (fun _ e => e.elim)).trans (below_fr hcut (fun _ => False)) (fun _ e => e.elim)⟩
end Go.Proofs.Ytipbflmonhlnjaa

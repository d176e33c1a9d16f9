import Derived.Test.YtamlbpbhlgmcoaaGreatDoorKWMn
import Derived.Test.YtamlbpbhlgmcoaaGreatDoorKAAbs
import Derived.Test.YtamlbpbhlgmcoaaGreatDoorKWSt
namespace Go.Proofs.YtamlbpbhlgmcoaaGreatDoor
open Go.RowKit Rec

theorem openE_facts {D : Dk} (he : openE D = 0) : D.down = false ∧ 98 ≤ D.nb ∧ logE D.full D.nb = 0 := by
  have hd : D.down = false := by
    cases hd : D.down with
    | false => rfl
    | true => unfold openE at he; rw [hd] at he; simp at he
  have heL : logE D.full D.nb = 0 := by unfold openE at he; rw [hd] at he; simpa using he
  refine ⟨hd, ?_, heL⟩
  by_cases c : D.nb < 98
  · unfold logE at heL; rw [if_pos c] at heL; exact absurd heL (by decide)
  · omega
theorem logN_nat (F : List Int) (nb j : Nat) (hj : j < (logN F nb).length) : ∃ m : Nat, nth (logN F nb) j = (m : Int) ∧ 98 ≤ m ∧ m < nb := by
  have hne : logN F nb ≠ [] := fun e => by rw [e] at hj; simp at hj
  have := pre_bd _ _ (numsL_ok _ _ hne).1 j hj
  refine ⟨(nth (logN F nb) j).toNat, ?_, ?_, ?_⟩
  · have : 0 ≤ nth (logN F nb) j := by have h := this; unfold logN; omega
    omega
  · have h := this; unfold logN; omega
  · have h := this; unfold logN; omega
set_option maxRecDepth 100000 in
set_option maxHeartbeats 4000000 in
theorem behind_yes (w : World) (D : Dk) (h : Disk w D) (hT : TabAt w) (he : openE D = 0) :
    Calls Tryz.prog 22 #[.pointer (some ⟨D.d, 0, none⟩)] w fun e w' => ∃ g cap, e = .returned (.tuple #[.slice (some ⟨g, 0, none⟩) (512 * D.nb : Nat) cap, .int .i64 0]) ∧ OwnB w' g cap (behind D.full D.nb) ∧ w.heap.size ≤ g ∧ Below w.heap.size w w' := by
  obtain ⟨hd, hnb, heL⟩ := openE_facts he
  have hnb1 := h.nb1
  have hmf : ∀ (fn : Fn) (first cap : Array Value) (w : World), (Instr.makeFunc fn first cap).run Tryz.prog w = .ok (.func fn first cap) w := fun _ _ _ _ => rfl
  have HB : Hid (Below w.heap.size w (w.alloc (.cells #[.int .i64 0] 26))) := (Below.refl _ _).alloc (Nat.le_refl _) _
  have HP : Hid ((w.alloc (.cells #[.int .i64 0] 26)).heap[w.heap.size]? = some (.cells #[.int .i64 0] 26 (0, 0))) := heap_alloc_new w _
  have HD : Hid (∀ wx, Below w.heap.size w wx → Disk wx D ∧ TabAt wx) := fun wx hb => ⟨h.on hb, hT.on hb⟩
  have HFl : Hid (D.full.length = 512 * D.nb) := h.full_length
  obtain ⟨k, hk⟩ : ∃ k, (logN D.full D.nb).length = k := ⟨_, rfl⟩
  have HK : Hid ((logN D.full D.nb).length = k) := hk
  have hkl := logN_len D.full D.nb
  rw [hk] at hkl
  have HL : Hid (∀ wx, Below w.heap.size w wx → Calls Tryz.prog 54 #[.pointer (some ⟨D.d, 0, none⟩)] wx fun e w' => ∃ a c v2 L, e = .returned (.tuple #[.slice a k c, v2]) ∧ LogAt wx w' D.full D.nb (.slice a k c) v2 L) := fun wx hb => by
    refine (log_yes wx D (h.on hb) (hT.on hb) he).mono ?_
    rintro e w' ⟨v1, v2, L, rfl, hA⟩
    obtain ⟨a, c, rfl⟩ := hA.nums.form
    rw [hk] at hA ⊢
    exact ⟨a, c, v2, L, rfl, hA⟩
  have HRd : Hid (∀ wx, Below w.heap.size w wx → Calls Tryz.prog 57 #[.pointer (some ⟨D.d, 0, none⟩), .int .i64 0, .int .i64 D.nb] wx fun e w' => ∃ v L, e = .returned v ∧ ReadAt wx w' D.full 0 D.nb v L) := fun wx hb => readFrom_any wx D (h.on hb) hd 0 D.nb (by omega)
  have HC : Hid (∀ w0 wx v L, ReadAt w0 wx D.full 0 D.nb v L → Calls Tryz.prog 56 #[v] wx fun e w' => ∃ g cap, e = .returned (.slice (some ⟨g, 0, none⟩) (512 * D.nb : Nat) cap) ∧ OwnB w' g cap D.full ∧ wx.heap.size ≤ g ∧ Below wx.heap.size wx w') := fun w0 wx v L hr => concat_any w0 wx D.full D.nb v L hr (by omega) hnb1 HFl.out
  clear h hT he hd heL hk
  obtain ⟨F, hF⟩ : ∃ F, D.full = F := ⟨_, rfl⟩
  rw [hF] at HFl HK HL HRd HC ⊢
  clear hF
  obtain ⟨nb, hN⟩ : ∃ nb, D.nb = nb := ⟨_, rfl⟩
  have HBl : Hid (∀ wx, Below w.heap.size w wx → Calls Tryz.prog 44 #[.pointer (some ⟨D.d, 0, none⟩)] wx fun e w' => e = .returned (.int .i64 nb) ∧ wx = w') := fun wx hb => by rw [← hN]; exact blocks_any wx D (HD.out wx hb).1
  rw [hN] at HFl HK HL HRd HC hnb hnb1 ⊢
  clear hN HD
  go_enter_defers Tryz.func22, Tryz.ntmps22
  generalize hwa : w.alloc (.cells #[.int .i64 0] 26) = wa at HB HP
  go_upto_region 4 with (first
    | (go_at_call 54; refine (HL.out _ HB.out).mono ?_; rintro e w1 ⟨a, c, v2, L, rfl, hA⟩; have H1 : Hid (LogAt wa w1 F nb (.slice a k c) v2 L ∧ Below w.heap.size w w1) := ⟨hA, HB.out.trans (hA.bel.mono HB.out.size)⟩; clear hA)
    | (go_at_call 44; have hh := H1.out; clear hh; refine (HBl.out _ H1.out.2).mono ?_; rintro e w' ⟨rfl, rfl⟩)
    | (go_at_call 57; refine (HRd.out _ H1.out.2).mono ?_; rintro e w2 ⟨v, L2, rfl, hA⟩; have H2 : Hid (ReadAt w1 w2 F 0 nb v L2) := hA; clear hA)
    | (go_at_call 56; refine (HC.out _ _ _ _ H2.out).mono ?_; rintro e w3 ⟨g, cap, rfl, ho, hg, hb⟩; have H3 : Hid (OwnB w3 g cap F ∧ w2.heap.size ≤ g ∧ Below w2.heap.size w2 w3) := ⟨ho, hg, hb⟩; clear ho hg hb))
  have HA : Hid (LogAt wa w2 F nb (.slice a k c) v2 L ∧ Below w.heap.size w w2 ∧ w2.heap[w.heap.size]? = some (.cells #[.int .i64 0] 26 (0, 0))) := ⟨H1.out.1.on H2.out.bel, H1.out.2.trans (H2.out.bel.mono H1.out.2.size), (H2.out.bel.block _ (Nat.lt_of_lt_of_le (heap_lt HP.out) H1.out.1.bel.size)).trans ((H1.out.1.bel.block _ (heap_lt HP.out)).trans HP.out)⟩
  clear H1 H2 HL HRd HC HBl hwa
  go_wp2
  go_loopw [21] (fun s wr => ∃ j : Nat, j ≤ k ∧ s = .int .i64 j ∧ OwnB wr g cap (fw F ((logH F nb).take j)) ∧ Below w2.heap.size w2 wr) (fun s _ => k - (intOf s).toNat)
  case atStart => exact ⟨0, Nat.zero_le _, rfl, H3.out.1, H3.out.2.2⟩
  case round =>
    obtain ⟨j, hj, rfl, ho, hb⟩ := hrel
    have HR : Hid (OwnB wr g cap (fw F ((logH F nb).take j)) ∧ Below w2.heap.size w2 wr) := ⟨ho, hb⟩
    clear ho hb
    by_cases hlt : j < k
    · obtain ⟨gn, cn, gd, cd, e1, e2, _, _, hat⟩ := (HA.out.1.on HR.out.2).at_ HK.out (by omega)
      cases e1
      subst e2
      obtain ⟨n1, g', c', n2, n3, _⟩ := hat j hlt
      obtain ⟨m, hm, hm1, hm2⟩ := logN_nat F nb j (by rw [HK.out]; exact hlt)
      rw [hm] at n1
      have HW : Hid (Calls Tryz.prog 58 #[.slice (some ⟨g, 0, none⟩) (512 * nb : Nat) cap, .int .i64 m, .slice (some ⟨g', 0, none⟩) 512 c'] wr fun e w' => e = .returned (.tuple #[]) ∧ OwnB w' g cap (fw F ((logH F nb).take (j + 1))) ∧ Below w2.heap.size w2 w') := by
        refine (lay_any wr g cap nb m _ (bck F (2 + j)) ⟨g', 0, none⟩ c' HR.out.1 (by rw [fw_length, HFl.out]) hm2 hnb1 n3.bytes (bck_length F _ nb HFl.out (by omega))).mono ?_
        rintro e w' ⟨rfl, x1, x2⟩
        refine ⟨rfl, ?_, HR.out.2.trans (x2.below _ (fun k hk => by rw [hk]; exact H3.out.2.1) HR.out.2.size)⟩
        rw [logH_take F nb j (by rw [HK.out]; exact hlt) m hm, fw_append]
        exact x1
      clear hat n3 hm hm1 hm2
      go_wp2_with (go_at_call 58; refine HW.out.mono ?_; rintro e w4 ⟨rfl, h1, b1⟩; have H4 : Hid (OwnB w4 g cap (fw F ((logH F nb).take (j + 1))) ∧ Below w2.heap.size w2 w4) := ⟨h1, b1⟩; clear h1 b1)
      go_round
      case rel => exact ⟨j + 1, by omega, by go_num, H4.out⟩
      case measure => simp [intOf]; omega
    · have e : j = k := by omega
      have HR2 : Hid (OwnB wr g cap (fw F (logH F nb)) ∧ Below w2.heap.size w2 wr) := by
        have := HR.out
        rw [List.take_of_length_le (by rw [show (logH F nb).length = _ from homes_length _ _ (logD_length _ _), HK.out]; omega)] at this
        exact this
      have HW : Hid (∀ wx g' c', Below wr.heap.size wr wx → OwnB wx g' c' zs → Calls Tryz.prog 58 #[.slice (some ⟨g, 0, none⟩) (512 * nb : Nat) cap, .int .i64 1, .slice (some ⟨g', 0, none⟩) 512 c'] wx fun e w' => e = .returned (.tuple #[]) ∧ OwnB w' g cap (behind F nb) ∧ Below w2.heap.size w2 w') := fun wx g' c' hb ho => by
        have hb2 : Below w2.heap.size w2 wx := HR2.out.2.trans (hb.mono HR2.out.2.size)
        refine (lay_any wx g cap nb 1 _ zs ⟨g', 0, none⟩ c' (HR2.out.1.on hb) (by rw [fw_length, HFl.out]) (by omega) hnb1 ho.bytes zs_length).mono ?_
        rintro e w' ⟨rfl, x1, x2⟩
        exact ⟨rfl, x1, hb2.trans (x2.below _ (fun k hk => by rw [hk]; exact H3.out.2.1) hb2.size)⟩
      clear HR
      go_upto_region 10 with (first
        | (go_at_call 59; refine (empty_any _).mono ?_; rintro e w5 ⟨g5, rfl, ho, hg, hb⟩; have H5 : Hid (OwnB w5 g5 512 zs ∧ Below wr.heap.size wr w5) := ⟨ho, hb⟩; clear ho hg hb)
        | (go_at_call 58; refine (HW.out _ _ _ H5.out.2 H5.out.1).mono ?_; rintro e w6 ⟨rfl, h1, b1⟩; have H6 : Hid (OwnB w6 g cap (behind F nb) ∧ Below w2.heap.size w2 w6) := ⟨h1, b1⟩; clear h1 b1))
      have hp : w6.heap[w.heap.size]? = some (.cells #[.int .i64 0] 26 (0, 0)) := (H6.out.2.block _ (heap_lt HA.out.2.2)).trans HA.out.2.2
      have HP6 : Hid (w6.heap[w.heap.size]? = some (.cells #[.int .i64 0] 26 (0, 0))) := hp
      have c0 : w6.cell? ⟨w.heap.size, 0, none⟩ = some (.int .i64 0) := by rw [cell_of_row _ _ _ _ _ _ hp]; rfl
      have f0 : w6.frozen? ⟨w.heap.size, 0, none⟩ = false := frozen_of_row _ _ _ _ _ hp
      clear hp
      go_wp2
      refine leaves_cons (f := 55) (args := #[.pointer (some ⟨w.heap.size, 0, none⟩)]) (by simp) (by simp [go_sem]) ?_
      refine (catchB_idle ⟨w.heap.size, 0, none⟩ _).mono ?_
      rintro e u' w'' ⟨rfl, rfl, rfl⟩
      have hc : (w6.setCell ⟨w.heap.size, 0, none⟩ (.int .i64 0)).cell? ⟨w.heap.size, 0, none⟩ = some (.int .i64 0) := by rw [cell_of_row _ _ _ _ _ _ (heap_setCell_same _ _ _ _ _ _ HP6.out)]; rfl
      have hgp : g ≠ w.heap.size := fun e => by
        obtain ⟨cur, hcur, _⟩ := H6.out.1.row
        rw [e, HP6.out] at hcur
        exact absurd hcur (by simp)
      have hfin : OwnB (w6.setCell ⟨w.heap.size, 0, none⟩ (.int .i64 0)) g cap (behind F nb) ∧ w.heap.size ≤ g ∧ Below w.heap.size w (w6.setCell ⟨w.heap.size, 0, none⟩ (.int .i64 0)) := by
        have hb6 : Below w.heap.size w w6 := HA.out.2.1.trans (H6.out.2.mono HA.out.2.1.size)
        exact ⟨H6.out.1.fr Fr.set hgp, Nat.le_trans HA.out.2.1.size H3.out.2.1, hb6.trans (Fr.below Fr.set _ (fun k hk => by rw [hk]; exact Nat.le_refl _) hb6.size)⟩
      simp [Leaves, settle, results, Tryz.results22, go_sem, hc]
      exact ⟨g, cap, ⟨rfl, rfl⟩, hfin⟩
end Go.Proofs.YtamlbpbhlgmcoaaGreatDoor

namespace Go.Proofs.YtamlbpbhlgmcoaaGreatDoor
open Go.RowKit Rec

theorem alloc_size (w : World) (o : Obj) : (w.alloc o).heap.size = w.heap.size + 1 := Array.size_push _
end Go.Proofs.YtamlbpbhlgmcoaaGreatDoor

namespace Go.Proofs.YtamlbpbhlgmcoaaGreatDoor
open Go.RowKit Rec

theorem infoF : (Tryz.prog.info? 71).map (fun i => (i.zero, i.size, i.bytes)) = some (some .nilFunc, 1, 8) := by kernel_rfl
theorem newsF (w : World) (v : Value) : ∀ j u, [v][j]? = some u → (w.alloc (.cells #[v] 71)).cell? ((⟨w.heap.size, 0, none⟩ : Addr).add j) = some u := fun m u hm => by
  have : m = 0 := by
    have := (List.getElem?_eq_some_iff.1 hm).1
    simp at this; omega
  subst this
  simp at hm
  subst hm
  rw [Addr.add_lit, cell_of_row _ _ _ _ _ _ (heap_alloc_new _ _)]
  rfl
theorem step_f1 {ops : Array Oper} {o : Oper} {act : Act} {K : Act → World → Prop} {Q : Exit → Act → World → Prop} {E : Prop} {w1 : World} (hgd : o.guard = none) (s x : Operand)
    (ho : o.op = .call { callee := .builtin .append, args := #[s, x], argTypes := #[87, 87] }) (v : Value) (k : Nat) (l : List Value) (u : Value) (hu : u.oneCell' = true) (hs : act.eval s = v) (hx : act.eval x = .slice (some ⟨w1.heap.size, 0, none⟩) 1 1)
    (hown : w1.ownsRow 0 71 1 v k l) (h47 : k + 1 ≤ 5864062014805)
    (h : ∀ g cap w', w'.ownsRow 0 71 1 (.slice (some ⟨g, 0, none⟩) (k + 1) cap) (k + 1) (l ++ [u]) → Fr (fun k => v.ownBlock = some k) w1 w' → (v.ownBlock = some g ∨ w1.heap.size ≤ g) → K (act.put o.dst (.slice (some ⟨g, 0, none⟩) (k + 1) cap)) w') :
    if Region.wanted o (yielded ops act.tmps) = true then Oper.wp Tryz.prog o act (w1.alloc (.cells #[u] 71)).drew K Q else E := by
  have hA : Below w1.heap.size w1 (w1.alloc (.cells #[u] 71)).drew := ((Below.refl _ _).alloc (Nat.le_refl _) _).drew
  obtain ⟨i0, hi, hz0, hz1, hz2⟩ := info_parts infoF
  refine step_own hgd s x 87 ho 71 i0 _ 1 8 Tryz.underlying87 hi hz0 hz1 hz2 rfl (by decide) v k l hs (owns_on hown hA) ⟨w1.heap.size, 0, none⟩ 1 1 [u] hx (by omega) rfl (fun j y hy => newsF w1 u j y hy) (fun y hy => by simp at hy; subst hy; exact hu) (by unfold maxLen; omega) (by omega) ?_
  intro g cap w' h1 h2 h3
  refine h g cap w' h1 ((below_fr hA _).trans h2 (fun k hk => .inl hk)) (h3.elim .inl (fun e => .inr (Nat.le_trans hA.size e)))
theorem rows1 (w : World) (c1 : Array Value) (t1 : TypeId) : Below w.heap.size w (w.alloc (.cells c1 t1)) ∧ (w.alloc (.cells c1 t1)).heap[w.heap.size]? = some (.cells c1 t1 (0, 0)) := ⟨(Below.refl _ _).alloc (Nat.le_refl _) _, heap_alloc_new _ _⟩
theorem rows3 (w : World) (c1 c2 c3 : Array Value) (t1 t2 t3 : TypeId) : Below w.heap.size w (((w.alloc (.cells c1 t1)).alloc (.cells c2 t2)).alloc (.cells c3 t3)) ∧ (((w.alloc (.cells c1 t1)).alloc (.cells c2 t2)).alloc (.cells c3 t3)).heap[w.heap.size]? = some (.cells c1 t1 (0, 0)) ∧ (((w.alloc (.cells c1 t1)).alloc (.cells c2 t2)).alloc (.cells c3 t3)).heap[w.heap.size + 1]? = some (.cells c2 t2 (0, 0)) ∧ (((w.alloc (.cells c1 t1)).alloc (.cells c2 t2)).alloc (.cells c3 t3)).heap[w.heap.size + 1 + 1]? = some (.cells c3 t3 (0, 0)) := by
  have e1 := alloc_size w (.cells c1 t1)
  have e2 := alloc_size (w.alloc (.cells c1 t1)) (.cells c2 t2)
  have b1 : Below w.heap.size w (w.alloc (.cells c1 t1)) := (Below.refl _ _).alloc (Nat.le_refl _) _
  have b2 : Below (w.alloc (.cells c1 t1)).heap.size (w.alloc (.cells c1 t1)) ((w.alloc (.cells c1 t1)).alloc (.cells c2 t2)) := (Below.refl _ _).alloc (Nat.le_refl _) _
  have b3 : Below ((w.alloc (.cells c1 t1)).alloc (.cells c2 t2)).heap.size ((w.alloc (.cells c1 t1)).alloc (.cells c2 t2)) (((w.alloc (.cells c1 t1)).alloc (.cells c2 t2)).alloc (.cells c3 t3)) := (Below.refl _ _).alloc (Nat.le_refl _) _
  have r1 := heap_alloc_new w (.cells c1 t1)
  have r2 := heap_alloc_new (w.alloc (.cells c1 t1)) (.cells c2 t2)
  have r3 := heap_alloc_new ((w.alloc (.cells c1 t1)).alloc (.cells c2 t2)) (.cells c3 t3)
  have r1' := (b2.block _ (heap_lt r1)).trans r1
  have r1'' := (b3.block _ (heap_lt r1')).trans r1'
  have r2' := (b3.block _ (heap_lt r2)).trans r2
  rw [e1] at r2'
  rw [e2, e1] at r3
  exact ⟨(b1.trans (b2.mono b1.size)).trans (b3.mono (Nat.le_trans b1.size b2.size)), r1'', r2', r3⟩
/-- what stands around a step that is added -/
theorem steps_add (B : Nat) (w w3 : World) (D : Dk) (hDl : ∀ k, D.has k → k < B) (p : Nat) (v : Value) (fs : List Value) (acts : List WA) (h : StepsAt w3 D p v fs acts) (hp : B ≤ p) (hv : ∀ k, v.ownBlock = some k → B ≤ k) (hB : B ≤ w.heap.size) (hb : Below w.heap.size w w3) (f : Value) (t : WA) (hj : JobAt w3 D p f t) (s : Nat) (hs : w3.heap[s]? = some (.cells #[.pointer (some ⟨p, 0, none⟩)] 86 (0, 0)))
    (g cap : Nat) (w' : World) (h1 : w'.ownsRow 0 71 1 (.slice (some ⟨g, 0, none⟩) (acts.length + 1) cap) (acts.length + 1) (fs ++ [f])) (h2 : Fr (fun k => v.ownBlock = some k) w3 w') (h3 : v.ownBlock = some g ∨ w3.heap.size ≤ g) :
    StepsAt (w'.setCell ⟨p, 1, none⟩ (.slice (some ⟨g, 0, none⟩) (acts.length + 1) cap)) D p (.slice (some ⟨g, 0, none⟩) (acts.length + 1) cap) (fs ++ [f]) (acts ++ [t]) ∧ B ≤ g ∧ Below B w (w'.setCell ⟨p, 1, none⟩ (.slice (some ⟨g, 0, none⟩) (acts.length + 1) cap)) ∧ w'.cell? ⟨p, 1, none⟩ = some v ∧ w'.frozen? ⟨p, 1, none⟩ = false ∧ w'.cell? ⟨s, 0, none⟩ = some (.pointer (some ⟨p, 0, none⟩)) := by
  have hnp : ¬ v.ownBlock = some p := own_apartR h.own h.row (by decide)
  have hrow : w'.heap[p]? = some (.cells #[.pointer (some ⟨D.d, 0, none⟩), v] 89 (0, 0)) := h2.heap h.row hnp
  have hsr := h2.heap hs (own_apartR h.own hs (by decide))
  have hs3 : w.heap.size ≤ w3.heap.size := hb.size
  have hg : B ≤ g := h3.elim (hv g) (fun e => by omega)
  have b1 : Below B w w3 := hb.mono hB
  have b2 : Below B w w' := b1.trans (h2.below B hv (by omega))
  refine ⟨h.more hj h1 h2 h3 (fun k hk => by have := hDl k hk; omega), hg, b2.trans (Fr.below Fr.set _ (fun k hk => by rw [hk]; exact hp) (Nat.le_trans hB b2.size)), by rw [cell_of_row _ _ _ _ _ _ hrow]; rfl, frozen_of_row _ _ _ _ _ hrow, by rw [cell_of_row _ _ _ _ _ _ hsr]; rfl⟩
set_option maxRecDepth 100000 in
set_option maxHeartbeats 4000000 in
theorem swrite_any (B : Nat) (w : World) (D : Dk) (hDl : ∀ k, D.has k → k < B) (p : Nat) (v : Value) (fs : List Value) (acts : List WA) (h : StepsAt w D p v fs acts) (hp : B ≤ p) (hv : ∀ k, v.ownBlock = some k → B ≤ k) (hB : B ≤ w.heap.size) (i g c : Nat) (x : List Int) (hx : BlkAt w g x) (hg : ¬ D.has g) (hi : i < D.nb) (hl : acts.length + 1 ≤ 1000000) :
    Calls Tryz.prog 45 #[.pointer (some ⟨p, 0, none⟩), .int .i64 i, .slice (some ⟨g, 0, none⟩) 512 c] w fun e w' => e = .returned (.tuple #[]) ∧ ∃ v' f, StepsAt w' D p v' (fs ++ [f]) (acts ++ [some (i, x)]) ∧ (∀ k, v'.ownBlock = some k → B ≤ k) ∧ Below B w w' := by
  obtain ⟨wb, hwb⟩ : ∃ wb, wb = (((w.alloc (.cells #[.pointer (some ⟨p, 0, none⟩)] 86)).alloc (.cells #[.int .i64 i] 3)).alloc (.cells #[.slice (some ⟨g, 0, none⟩) 512 c] 37)) := ⟨_, rfl⟩
  obtain ⟨hbw, hr0, hr1, hr2⟩ := rows3 w #[.pointer (some ⟨p, 0, none⟩)] #[.int .i64 i] #[.slice (some ⟨g, 0, none⟩) 512 c] 86 3 37
  rw [← hwb] at hbw hr0 hr1 hr2
  have hS0 := h.on hbw
  have hge : ∀ k, w.heap.size ≤ k → ¬ D.has k := fun k hk hd => by have := hDl k hd; omega
  have hj : JobAt wb D p (.func (.func 81) #[] #[.pointer (some ⟨w.heap.size, 0, none⟩), .pointer (some ⟨w.heap.size + 1, 0, none⟩), .pointer (some ⟨w.heap.size + 1 + 1, 0, none⟩)]) (some (i, x)) := ⟨_, _, _, g, c, rfl, hr0, hr1, hr2, hx.on hbw, hi, hge _ (by omega), hge _ (by omega), hge _ (by omega), hg⟩
  have HS : Hid (StepsAt wb D p v fs acts) := hS0
  obtain ⟨q0, q1, q2⟩ := HS.out.cells
  have q3 : wb.cell? ⟨w.heap.size, 0, none⟩ = some (.pointer (some ⟨p, 0, none⟩)) := by rw [cell_of_row _ _ _ _ _ _ hr0]; rfl
  have HAl : Hid (∀ (o : Obj), Below wb.heap.size wb (wb.alloc o)) := fun o => (Below.refl _ _).alloc (Nat.le_refl _) _
  have q4 : ∀ o, (wb.alloc o).cell? ⟨w.heap.size, 0, none⟩ = some (.pointer (some ⟨p, 0, none⟩)) := fun o => ((HAl.out o).cell (block_lt_of_cell q3)).trans q3
  have q5 : ∀ o, (wb.alloc o).cell? ⟨p, 1, none⟩ = some v := fun o => ((HAl.out o).cell (block_lt_of_cell q1)).trans q1
  have hmf : ∀ (fn : Fn) (first cap : Array Value) (w : World), (Instr.makeFunc fn first cap).run Tryz.prog w = .ok (.func fn first cap) w := fun _ _ _ _ => rfl
  have HX := steps_add B w wb D hDl p v fs acts HS.out hp hv hB hbw _ _ hj _ hr0
  have HXh : Hid (∀ g cap w', w'.ownsRow 0 71 1 (.slice (some ⟨g, 0, none⟩) (acts.length + 1) cap) (acts.length + 1) (fs ++ [(Value.func (.func 81) #[] #[.pointer (some ⟨w.heap.size, 0, none⟩), .pointer (some ⟨w.heap.size + 1, 0, none⟩), .pointer (some ⟨w.heap.size + 1 + 1, 0, none⟩)])]) → Fr (fun k => v.ownBlock = some k) wb w' → (v.ownBlock = some g ∨ wb.heap.size ≤ g) → _) := HX
  clear h hS0 hge hj HX hbw hr0 hr1 hr2
  go_enter Tryz.func45, Tryz.ntmps45
  go_wp2
  rw [← hwb]
  clear hwb
  go_region_law (refine step_f1 (w1 := wb) rfl (.tmp 10) (.tmp 12) rfl v acts.length fs (Value.func (.func 81) #[] #[.pointer (some ⟨w.heap.size, 0, none⟩), .pointer (some ⟨w.heap.size + 1, 0, none⟩), .pointer (some ⟨w.heap.size + 1 + 1, 0, none⟩)]) rfl (by simp [Act.eval]) (by simp [Act.eval]) HS.out.own (by omega) ?_; intro g5 cap5 w5 ho hf hg; obtain ⟨x1, x2, x3, x4, x5, x6⟩ := HXh.out g5 cap5 w5 ho hf hg; have H5 : Hid (StepsAt (w5.setCell ⟨p, 1, none⟩ (.slice (some ⟨g5, 0, none⟩) (acts.length + 1) cap5)) D p (.slice (some ⟨g5, 0, none⟩) (acts.length + 1) cap5) (fs ++ [(Value.func (.func 81) #[] #[.pointer (some ⟨w.heap.size, 0, none⟩), .pointer (some ⟨w.heap.size + 1, 0, none⟩), .pointer (some ⟨w.heap.size + 1 + 1, 0, none⟩)])]) (acts ++ [some (i, x)]) ∧ B ≤ g5 ∧ Below B w (w5.setCell ⟨p, 1, none⟩ (.slice (some ⟨g5, 0, none⟩) (acts.length + 1) cap5))) := ⟨x1, x2, x3⟩; clear ho hf hg x1 x2 x3)
  all_goals
    go_wp2
    go_end0
    exact ⟨rfl, _, _, H5.out.1, (fun k hk => by cases hk; exact H5.out.2.1), H5.out.2.2⟩
end Go.Proofs.YtamlbpbhlgmcoaaGreatDoor

namespace Go.Proofs.YtamlbpbhlgmcoaaGreatDoor
open Go.RowKit Rec

set_option maxRecDepth 100000 in
set_option maxHeartbeats 4000000 in
theorem sflush_any (B : Nat) (w : World) (D : Dk) (hDl : ∀ k, D.has k → k < B) (p : Nat) (v : Value) (fs : List Value) (acts : List WA) (h : StepsAt w D p v fs acts) (hp : B ≤ p) (hv : ∀ k, v.ownBlock = some k → B ≤ k) (hB : B ≤ w.heap.size) (hl : acts.length + 1 ≤ 1000000) :
    Calls Tryz.prog 46 #[.pointer (some ⟨p, 0, none⟩)] w fun e w' => e = .returned (.tuple #[]) ∧ ∃ v' f, StepsAt w' D p v' (fs ++ [f]) (acts ++ [none]) ∧ (∀ k, v'.ownBlock = some k → B ≤ k) ∧ Below B w w' := by
  obtain ⟨wb, hwb⟩ : ∃ wb, wb = w.alloc (.cells #[.pointer (some ⟨p, 0, none⟩)] 86) := ⟨_, rfl⟩
  obtain ⟨hbw, hr0⟩ := rows1 w #[.pointer (some ⟨p, 0, none⟩)] 86
  rw [← hwb] at hbw hr0
  have hS0 := h.on hbw
  have hge : ∀ k, w.heap.size ≤ k → ¬ D.has k := fun k hk hd => by have := hDl k hd; omega
  have hj : JobAt wb D p (.func (.func 82) #[] #[.pointer (some ⟨w.heap.size, 0, none⟩)]) (none) := ⟨_, rfl, hr0, hge _ (by omega)⟩
  have HS : Hid (StepsAt wb D p v fs acts) := hS0
  obtain ⟨q0, q1, q2⟩ := HS.out.cells
  have q3 : wb.cell? ⟨w.heap.size, 0, none⟩ = some (.pointer (some ⟨p, 0, none⟩)) := by rw [cell_of_row _ _ _ _ _ _ hr0]; rfl
  have HAl : Hid (∀ (o : Obj), Below wb.heap.size wb (wb.alloc o)) := fun o => (Below.refl _ _).alloc (Nat.le_refl _) _
  have q4 : ∀ o, (wb.alloc o).cell? ⟨w.heap.size, 0, none⟩ = some (.pointer (some ⟨p, 0, none⟩)) := fun o => ((HAl.out o).cell (block_lt_of_cell q3)).trans q3
  have q5 : ∀ o, (wb.alloc o).cell? ⟨p, 1, none⟩ = some v := fun o => ((HAl.out o).cell (block_lt_of_cell q1)).trans q1
  have hmf : ∀ (fn : Fn) (first cap : Array Value) (w : World), (Instr.makeFunc fn first cap).run Tryz.prog w = .ok (.func fn first cap) w := fun _ _ _ _ => rfl
  have HX := steps_add B w wb D hDl p v fs acts HS.out hp hv hB hbw _ _ hj _ hr0
  have HXh : Hid (∀ g cap w', w'.ownsRow 0 71 1 (.slice (some ⟨g, 0, none⟩) (acts.length + 1) cap) (acts.length + 1) (fs ++ [(Value.func (.func 82) #[] #[.pointer (some ⟨w.heap.size, 0, none⟩)])]) → Fr (fun k => v.ownBlock = some k) wb w' → (v.ownBlock = some g ∨ wb.heap.size ≤ g) → _) := HX
  clear h hS0 hge hj HX hbw hr0
  go_enter Tryz.func46, Tryz.ntmps46
  go_wp2
  rw [← hwb]
  clear hwb
  go_region_law (refine step_f1 (w1 := wb) rfl (.tmp 6) (.tmp 8) rfl v acts.length fs (Value.func (.func 82) #[] #[.pointer (some ⟨w.heap.size, 0, none⟩)]) rfl (by simp [Act.eval]) (by simp [Act.eval]) HS.out.own (by omega) ?_; intro g5 cap5 w5 ho hf hg; obtain ⟨x1, x2, x3, x4, x5, x6⟩ := HXh.out g5 cap5 w5 ho hf hg; have H5 : Hid (StepsAt (w5.setCell ⟨p, 1, none⟩ (.slice (some ⟨g5, 0, none⟩) (acts.length + 1) cap5)) D p (.slice (some ⟨g5, 0, none⟩) (acts.length + 1) cap5) (fs ++ [(Value.func (.func 82) #[] #[.pointer (some ⟨w.heap.size, 0, none⟩)])]) (acts ++ [none]) ∧ B ≤ g5 ∧ Below B w (w5.setCell ⟨p, 1, none⟩ (.slice (some ⟨g5, 0, none⟩) (acts.length + 1) cap5))) := ⟨x1, x2, x3⟩; clear ho hf hg x1 x2 x3)
  all_goals
    go_wp2
    go_end0
    exact ⟨rfl, _, _, H5.out.1, (fun k hk => by cases hk; exact H5.out.2.1), H5.out.2.2⟩
end Go.Proofs.YtamlbpbhlgmcoaaGreatDoor

namespace Go.Proofs.YtamlbpbhlgmcoaaGreatDoor
open Go.RowKit Rec

theorem take_append (a : AD) (xs ys : List WA) : (a.takeE xs = 0 → a.take (xs ++ ys) = (a.take xs).take ys ∧ a.takeE (xs ++ ys) = (a.take xs).takeE ys) ∧ (a.takeE xs ≠ 0 → a.take (xs ++ ys) = a.take xs ∧ a.takeE (xs ++ ys) = a.takeE xs) := by
  induction xs generalizing a with
  | nil => exact ⟨fun _ => ⟨rfl, rfl⟩, fun h => absurd rfl h⟩
  | cons t xs ih =>
    simp only [List.cons_append, AD.take, AD.takeE]
    cases hd : a.down with
    | true => simp
    | false =>
      by_cases h1 : a.at_ = 1
      · simp [h1]
      · simp only [Bool.false_eq_true, if_false, if_neg h1]
        exact ih (a.act t)
theorem takeE_vals (a : AD) (xs : List WA) : a.takeE xs = 0 ∨ a.takeE xs = 30 := by
  induction xs generalizing a with
  | nil => exact .inl rfl
  | cons t xs ih =>
    rw [AD.takeE]
    split
    · exact .inr rfl
    · split
      · exact .inr rfl
      · exact ih _
/-- there is room for so many steps -/
structure RoomN (a : AD) (n : Nat) : Prop where
  p : a.P.length + n ≤ 4294967296
  t : a.T.length + n ≤ 4294967296
  w : a.wr + n ≤ 4294967296
  f : a.fl + n ≤ 4294967296
  k : a.keep.length ≤ 9223372036854775807
theorem RoomN.room {a : AD} {n : Nat} (h : RoomN a (n + 1)) : RoomD a := ⟨by have := h.p; omega, by have := h.t; omega, by have := h.w; omega, by have := h.f; omega, h.k⟩
theorem RoomN.le {a : AD} {n m : Nat} (h : RoomN a n) (hm : m ≤ n) : RoomN a m := ⟨by have := h.p; omega, by have := h.t; omega, by have := h.w; omega, by have := h.f; omega, h.k⟩
/-- what the step at which the power goes does -/
def AD.lastA (a : AD) : WA → AD
  | none => ({ a with fl := a.fl + 1 } : AD).cutW (kpOf a.keep)
  | some p => (a.wrs [p]).cutW (kpOf a.keep)
theorem take_one (a : AD) (t : WA) (h : a.at_ = 1) : a.act t = a.lastA t ∧ True := by
  refine ⟨?_, trivial⟩
  cases t with
  | none =>
    show a.flush = _
    unfold AD.flush
    rw [if_pos h]
    unfold AD.cut
    rw [AD.settle_fw]; rfl
  | some p =>
    show a.write p.1 p.2 = _
    unfold AD.write
    rw [if_pos h]
    unfold AD.cut
    rw [AD.settle_fw]
    rfl
theorem RoomN.act {a : AD} {n : Nat} (h : RoomN a (n + 1)) (t : WA) : RoomN (a.act t) n := by
  have h1 := h.p
  have h2 := h.t
  have h3 := h.w
  have h4 := h.f
  have h5 := h.k
  cases t with
  | none =>
    by_cases c : a.at_ = 1
    · have e : a.act none = (({ a with fl := a.fl + 1 } : AD).cutW (kpOf a.keep)) := (take_one a none c).1
      rw [e]
      exact ⟨by show 0 + n ≤ _; omega, by show a.T.length + n ≤ _; omega, by show a.wr + n ≤ _; omega, by show a.fl + 1 + n ≤ _; omega, h5⟩
    · rw [show a.act none = a.fls from flush_un a c]
      exact ⟨by show 0 + n ≤ _; omega, by show (a.T ++ [actT none]).length + n ≤ _; rw [List.length_append]; simp; omega, by show a.wr + n ≤ _; omega, by show a.fl + 1 + n ≤ _; omega, h5⟩
  | some p =>
    by_cases c : a.at_ = 1
    · have e : a.act (some p) = (a.wrs [p]).cutW (kpOf a.keep) := (take_one a (some p) c).1
      rw [e]
      exact ⟨by show 0 + n ≤ _; omega, by show (a.T ++ [actT (some p)]).length + n ≤ _; rw [List.length_append]; simp; omega, by show a.wr + 1 + n ≤ _; omega, by show a.fl + n ≤ _; omega, h5⟩
    · rw [show a.act (some p) = a.wrs [p] from write_un a _ _ c]
      exact ⟨by show (a.P ++ [p]).length + n ≤ _; rw [List.length_append]; simp; omega, by show (a.T ++ [actT (some p)]).length + n ≤ _; rw [List.length_append]; simp; omega, by show a.wr + 1 + n ≤ _; omega, by show a.fl + n ≤ _; omega, h5⟩
theorem RoomN.take {n : Nat} (xs : List WA) : ∀ {a : AD}, RoomN a (xs.length + n) → RoomN (a.take xs) n := by
  induction xs with
  | nil => intro a h; exact h.le (by omega)
  | cons t xs ih =>
    intro a h
    have h' : RoomN a ((xs.length + n) + 1) := h.le (by simp; omega)
    rw [AD.take]
    split
    · exact h.le (by omega)
    · split
      · exact (h'.act t).le (by omega)
      · exact ih (h'.act t)
theorem act_nb (a : AD) (t : WA) : (a.act t).nb = a.nb := by
  by_cases c : a.at_ = 1
  · rw [(take_one a t c).1]; cases t <;> rfl
  · cases t with
    | none => rw [show a.act none = a.fls from flush_un a c]; rfl
    | some p => rw [show a.act (some p) = a.wrs [p] from write_un a _ _ c]; rfl
end Go.Proofs.YtamlbpbhlgmcoaaGreatDoor

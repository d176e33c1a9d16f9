import Derived.Test.YtpheajiepnjhdabDoorKWBd
import Derived.Test.YtpheajiepnjhdabDoorKWCd
import Derived.Test.YtpheajiepnjhdabDoorKAStep
namespace Go.Proofs.YtpheajiepnjhdabDoor
open Go.RowKit Rec

theorem LogAt.on {w0 w w' : World} {F : List Int} {nb : Nat} {v1 v2 : Value} {L : List Rb} (h : LogAt w0 w F nb v1 v2 L) (hb : Below w.heap.size w w') : LogAt w0 w' F nb v1 v2 L :=
  ⟨h.nums.on hb, h.data.on hb, h.bel.trans (hb.mono h.bel.size)⟩
/-- a number and its block -/
theorem LogAt.at_ {w0 w : World} {F : List Int} {nb k : Nat} {v1 v2 : Value} {L : List Rb} (h : LogAt w0 w F nb v1 v2 L) (hk : (logN F nb).length = k) (h0 : 0 < k) :
    ∃ gn cn gd cd, v1 = .slice (some ⟨gn, 0, none⟩) k cn ∧ v2 = .slice (some ⟨gd, 0, none⟩) k cd ∧ w0.heap.size ≤ gn ∧ w0.heap.size ≤ gd ∧ ∀ i, i < k → w.cell? ⟨gn, i, none⟩ = some (.int .i64 (nth (logN F nb) i)) ∧ ∃ g c, w.cell? ⟨gd, i, none⟩ = some (.slice (some ⟨g, 0, none⟩) 512 c) ∧ OwnB w g c (bck F (2 + i)) ∧ w0.heap.size ≤ g := by
  have hd := h.data
  rw [hk] at hd
  obtain ⟨gd, cd, rfl⟩ := own_some hd.row h0
  rcases h.nums with ⟨e, _⟩ | ⟨gn, cn, e, ho, hg⟩
  · rw [e] at hk; simp at hk; omega
  · rw [hk] at e
    refine ⟨gn, cn, gd, cd, e, rfl, hg, hd.far gd rfl, fun i hi => ⟨ho.cell i (by rw [hk]; exact hi), ?_⟩⟩
    obtain ⟨q, hq⟩ : ∃ q, L[i]? = some q := ⟨L[i]'(by rw [hd.len]; exact hi), List.getElem?_eq_getElem _⟩
    obtain ⟨e1, e2, e3⟩ := hd.at_ i q hq
    rw [e1] at e2
    exact ⟨q.g, q.c, hd.cell i q hq, e2, e3⟩
theorem logH_take (F : List Int) (nb j : Nat) (hj : j < (logN F nb).length) (m : Nat) (hm : nth (logN F nb) j = (m : Int)) : (logH F nb).take (j + 1) = (logH F nb).take j ++ [(m, bck F (2 + j))] := by
  have hl : (logH F nb).length = (logN F nb).length := homes_length _ _ (logD_length _ _)
  rw [List.take_add_one, List.getElem?_eq_getElem (by rw [hl]; exact hj)]
  have e := homes_get (logN F nb) (logD F (logN F nb).length) j (by rw [← hl] at hj; exact hj)
  rw [row_logD F _ j hj, hm] at e
  have e2 : (logH F nb)[j]'(by rw [hl]; exact hj) = (m, bck F (2 + j)) := e
  rw [e2]; rfl
set_option maxRecDepth 100000 in
set_option maxHeartbeats 1600000 in
theorem behind_no (w : World) (D : Dk) (h : Disk w D) (hT : TabAt w) (he : openE D ≠ 0) :
    Calls Tryd.prog 13 #[.pointer (some ⟨D.d, 0, none⟩)] w fun e w' => e = .returned (.tuple #[.slice none 0 0, .int .i64 (openE D)]) ∧ Below w.heap.size w w' := by
  have hmf : ∀ (fn : Fn) (first cap : Array Value) (w : World), (Instr.makeFunc fn first cap).run Tryd.prog w = .ok (.func fn first cap) w := fun _ _ _ _ => rfl
  have HB : Hid (Below w.heap.size w (w.alloc (.cells #[.int .i64 0] 37))) := (Below.refl _ _).alloc (Nat.le_refl _) _
  have HL : Hid (Calls Tryd.prog 37 #[.pointer (some ⟨D.d, 0, none⟩)] (w.alloc (.cells #[.int .i64 0] 37)) fun e w' => e = gave (openE D) ∧ Below (w.alloc (.cells #[.int .i64 0] 37)).heap.size (w.alloc (.cells #[.int .i64 0] 37)) w') := log_no _ D (h.on HB.out) (hT.on HB.out) he
  clear h hT he
  go_enter_defers Tryd.func13, Tryd.ntmps13
  go_wp2_with (go_at_call 37; refine HL.out.mono ?_; rintro e w1 ⟨rfl, hb⟩; have H1 : Hid (Below (w.alloc (.cells #[.int .i64 0] 37)).heap.size (w.alloc (.cells #[.int .i64 0] 37)) w1) := hb; clear hb)
  have hr : w1.heap[w.heap.size]? = some (.cells #[.int .i64 0] 37 (0, 0)) := (H1.out.block _ (heap_lt (heap_alloc_new w _))).trans (heap_alloc_new w _)
  refine leaves_cons (f := 35) (args := #[.pointer (some ⟨w.heap.size, 0, none⟩)]) (by simp) (by simp [go_sem]) ?_
  refine (catchB_panicking ⟨w.heap.size, 0, none⟩ 0 _ [] _ (by rw [cell_of_row _ _ _ _ _ _ hr]; rfl) (frozen_of_row _ _ _ _ _ hr)).mono ?_
  rintro e u' w'' ⟨rfl, rfl, rfl⟩
  have hc : (w1.setCell ⟨w.heap.size, 0, none⟩ (.int .i64 (openE D))).cell? ⟨w.heap.size, 0, none⟩ = some (.int .i64 (openE D)) := by rw [cell_of_row _ _ _ _ _ _ (heap_setCell_same _ _ _ _ _ _ hr)]; rfl
  have hbel : Below w.heap.size w (w1.setCell ⟨w.heap.size, 0, none⟩ (.int .i64 (openE D))) := (HB.out.trans (H1.out.mono HB.out.size)).trans (Fr.below Fr.set _ (fun k hk => by rw [hk]; exact Nat.le_refl _) (Nat.le_trans HB.out.size H1.out.size))
  simp [Leaves, settle, results, Tryd.results13, go_sem, hc]
  exact hbel
end Go.Proofs.YtpheajiepnjhdabDoor

namespace Go.Proofs.YtpheajiepnjhdabDoor
open Go.RowKit Rec

theorem openE_facts {D : Dk} (he : openE D = 0) : D.down = false ∧ 98 ≤ D.nb ∧ logE D.full D.nb = 0 := by
  have hd : D.down = false := by
    cases hd : D.down with
    | false => rfl
    | true => unfold openE at he; rw [hd] at he; simp at he
  have heL : logE D.full D.nb = 0 := by unfold openE at he; rw [hd] at he; simpa using he
  refine ⟨hd, ?_, heL⟩
  by_cases c : D.nb < 98
  · unfold logE at heL; rw [if_pos c] at heL; exact absurd heL (by decide)
  · omega
theorem logN_nat (F : List Int) (nb j : Nat) (hj : j < (logN F nb).length) : ∃ m : Nat, nth (logN F nb) j = (m : Int) ∧ 98 ≤ m ∧ m < nb := by
  have hne : logN F nb ≠ [] := fun e => by rw [e] at hj; simp at hj
  have := pre_bd _ _ (numsL_ok _ _ hne).1 j hj
  refine ⟨(nth (logN F nb) j).toNat, ?_, ?_, ?_⟩
  · have : 0 ≤ nth (logN F nb) j := by have h := this; unfold logN; omega
    omega
  · have h := this; unfold logN; omega
  · have h := this; unfold logN; omega
set_option maxRecDepth 100000 in
set_option maxHeartbeats 4000000 in
theorem behind_yes (w : World) (D : Dk) (h : Disk w D) (hT : TabAt w) (he : openE D = 0) :
    Calls Tryd.prog 13 #[.pointer (some ⟨D.d, 0, none⟩)] w fun e w' => ∃ g cap, e = .returned (.tuple #[.slice (some ⟨g, 0, none⟩) (512 * D.nb : Nat) cap, .int .i64 0]) ∧ OwnB w' g cap (behind D.full D.nb) ∧ w.heap.size ≤ g ∧ Below w.heap.size w w' := by
  obtain ⟨hd, hnb, heL⟩ := openE_facts he
  have hnb1 := h.nb1
  have hmf : ∀ (fn : Fn) (first cap : Array Value) (w : World), (Instr.makeFunc fn first cap).run Tryd.prog w = .ok (.func fn first cap) w := fun _ _ _ _ => rfl
  have HB : Hid (Below w.heap.size w (w.alloc (.cells #[.int .i64 0] 37))) := (Below.refl _ _).alloc (Nat.le_refl _) _
  have HP : Hid ((w.alloc (.cells #[.int .i64 0] 37)).heap[w.heap.size]? = some (.cells #[.int .i64 0] 37 (0, 0))) := heap_alloc_new w _
  have HD : Hid (∀ wx, Below w.heap.size w wx → Disk wx D ∧ TabAt wx) := fun wx hb => ⟨h.on hb, hT.on hb⟩
  have HFl : Hid (D.full.length = 512 * D.nb) := h.full_length
  obtain ⟨k, hk⟩ : ∃ k, (logN D.full D.nb).length = k := ⟨_, rfl⟩
  have HK : Hid ((logN D.full D.nb).length = k) := hk
  have hkl := logN_len D.full D.nb
  rw [hk] at hkl
  have HL : Hid (∀ wx, Below w.heap.size w wx → Calls Tryd.prog 37 #[.pointer (some ⟨D.d, 0, none⟩)] wx fun e w' => ∃ a c v2 L, e = .returned (.tuple #[.slice a k c, v2]) ∧ LogAt wx w' D.full D.nb (.slice a k c) v2 L) := fun wx hb => by
    refine (log_yes wx D (h.on hb) (hT.on hb) he).mono ?_
    rintro e w' ⟨v1, v2, L, rfl, hA⟩
    obtain ⟨a, c, rfl⟩ := hA.nums.form
    rw [hk] at hA ⊢
    exact ⟨a, c, v2, L, rfl, hA⟩
  have HRd : Hid (∀ wx, Below w.heap.size w wx → Calls Tryd.prog 39 #[.pointer (some ⟨D.d, 0, none⟩), .int .i64 0, .int .i64 D.nb] wx fun e w' => ∃ v L, e = .returned v ∧ ReadAt wx w' D.full 0 D.nb v L) := fun wx hb => readFrom_any wx D (h.on hb) hd 0 D.nb (by omega)
  have HC : Hid (∀ w0 wx v L, ReadAt w0 wx D.full 0 D.nb v L → Calls Tryd.prog 38 #[v] wx fun e w' => ∃ g cap, e = .returned (.slice (some ⟨g, 0, none⟩) (512 * D.nb : Nat) cap) ∧ OwnB w' g cap D.full ∧ wx.heap.size ≤ g ∧ Below wx.heap.size wx w') := fun w0 wx v L hr => concat_any w0 wx D.full D.nb v L hr (by omega) hnb1 HFl.out
  clear h hT he hd heL hk
  obtain ⟨F, hF⟩ : ∃ F, D.full = F := ⟨_, rfl⟩
  rw [hF] at HFl HK HL HRd HC ⊢
  clear hF
  obtain ⟨nb, hN⟩ : ∃ nb, D.nb = nb := ⟨_, rfl⟩
  have HBl : Hid (∀ wx, Below w.heap.size w wx → Calls Tryd.prog 27 #[.pointer (some ⟨D.d, 0, none⟩)] wx fun e w' => e = .returned (.int .i64 nb) ∧ wx = w') := fun wx hb => by rw [← hN]; exact blocks_any wx D (HD.out wx hb).1
  rw [hN] at HFl HK HL HRd HC hnb hnb1 ⊢
  clear hN HD
  go_enter_defers Tryd.func13, Tryd.ntmps13
  generalize hwa : w.alloc (.cells #[.int .i64 0] 37) = wa at HB HP
  go_upto_region 4 with (first
    | (go_at_call 37; refine (HL.out _ HB.out).mono ?_; rintro e w1 ⟨a, c, v2, L, rfl, hA⟩; have H1 : Hid (LogAt wa w1 F nb (.slice a k c) v2 L ∧ Below w.heap.size w w1) := ⟨hA, HB.out.trans (hA.bel.mono HB.out.size)⟩; clear hA)
    | (go_at_call 27; have hh := H1.out; clear hh; refine (HBl.out _ H1.out.2).mono ?_; rintro e w' ⟨rfl, rfl⟩)
    | (go_at_call 39; refine (HRd.out _ H1.out.2).mono ?_; rintro e w2 ⟨v, L2, rfl, hA⟩; have H2 : Hid (ReadAt w1 w2 F 0 nb v L2) := hA; clear hA)
    | (go_at_call 38; refine (HC.out _ _ _ _ H2.out).mono ?_; rintro e w3 ⟨g, cap, rfl, ho, hg, hb⟩; have H3 : Hid (OwnB w3 g cap F ∧ w2.heap.size ≤ g ∧ Below w2.heap.size w2 w3) := ⟨ho, hg, hb⟩; clear ho hg hb))
  have HA : Hid (LogAt wa w2 F nb (.slice a k c) v2 L ∧ Below w.heap.size w w2 ∧ w2.heap[w.heap.size]? = some (.cells #[.int .i64 0] 37 (0, 0))) := ⟨H1.out.1.on H2.out.bel, H1.out.2.trans (H2.out.bel.mono H1.out.2.size), (H2.out.bel.block _ (Nat.lt_of_lt_of_le (heap_lt HP.out) H1.out.1.bel.size)).trans ((H1.out.1.bel.block _ (heap_lt HP.out)).trans HP.out)⟩
  clear H1 H2 HL HRd HC HBl hwa
  go_wp2
  go_loopw [21] (fun s wr => ∃ j : Nat, j ≤ k ∧ s = .int .i64 j ∧ OwnB wr g cap (fw F ((logH F nb).take j)) ∧ Below w2.heap.size w2 wr) (fun s _ => k - (intOf s).toNat)
  case atStart => exact ⟨0, Nat.zero_le _, rfl, H3.out.1, H3.out.2.2⟩
  case round =>
    obtain ⟨j, hj, rfl, ho, hb⟩ := hrel
    have HR : Hid (OwnB wr g cap (fw F ((logH F nb).take j)) ∧ Below w2.heap.size w2 wr) := ⟨ho, hb⟩
    clear ho hb
    by_cases hlt : j < k
    · obtain ⟨gn, cn, gd, cd, e1, e2, _, _, hat⟩ := (HA.out.1.on HR.out.2).at_ HK.out (by omega)
      cases e1
      subst e2
      obtain ⟨n1, g', c', n2, n3, _⟩ := hat j hlt
      obtain ⟨m, hm, hm1, hm2⟩ := logN_nat F nb j (by rw [HK.out]; exact hlt)
      rw [hm] at n1
      have HW : Hid (Calls Tryd.prog 40 #[.slice (some ⟨g, 0, none⟩) (512 * nb : Nat) cap, .int .i64 m, .slice (some ⟨g', 0, none⟩) 512 c'] wr fun e w' => e = .returned (.tuple #[]) ∧ OwnB w' g cap (fw F ((logH F nb).take (j + 1))) ∧ Below w2.heap.size w2 w') := by
        refine (lay_any wr g cap nb m _ (bck F (2 + j)) ⟨g', 0, none⟩ c' HR.out.1 (by rw [fw_length, HFl.out]) hm2 hnb1 n3.bytes (bck_length F _ nb HFl.out (by omega))).mono ?_
        rintro e w' ⟨rfl, x1, x2⟩
        refine ⟨rfl, ?_, HR.out.2.trans (x2.below _ (fun k hk => by rw [hk]; exact H3.out.2.1) HR.out.2.size)⟩
        rw [logH_take F nb j (by rw [HK.out]; exact hlt) m hm, fw_append]
        exact x1
      clear hat n3 hm hm1 hm2
      go_wp2_with (go_at_call 40; refine HW.out.mono ?_; rintro e w4 ⟨rfl, h1, b1⟩; have H4 : Hid (OwnB w4 g cap (fw F ((logH F nb).take (j + 1))) ∧ Below w2.heap.size w2 w4) := ⟨h1, b1⟩; clear h1 b1)
      go_round
      case rel => exact ⟨j + 1, by omega, by go_num, H4.out⟩
      case measure => simp [intOf]; omega
    · have e : j = k := by omega
      have HR2 : Hid (OwnB wr g cap (fw F (logH F nb)) ∧ Below w2.heap.size w2 wr) := by
        have := HR.out
        rw [List.take_of_length_le (by rw [show (logH F nb).length = _ from homes_length _ _ (logD_length _ _), HK.out]; omega)] at this
        exact this
      have HW : Hid (∀ wx g' c', Below wr.heap.size wr wx → OwnB wx g' c' zs → Calls Tryd.prog 40 #[.slice (some ⟨g, 0, none⟩) (512 * nb : Nat) cap, .int .i64 1, .slice (some ⟨g', 0, none⟩) 512 c'] wx fun e w' => e = .returned (.tuple #[]) ∧ OwnB w' g cap (behind F nb) ∧ Below w2.heap.size w2 w') := fun wx g' c' hb ho => by
        have hb2 : Below w2.heap.size w2 wx := HR2.out.2.trans (hb.mono HR2.out.2.size)
        refine (lay_any wx g cap nb 1 _ zs ⟨g', 0, none⟩ c' (HR2.out.1.on hb) (by rw [fw_length, HFl.out]) (by omega) hnb1 ho.bytes zs_length).mono ?_
        rintro e w' ⟨rfl, x1, x2⟩
        exact ⟨rfl, x1, hb2.trans (x2.below _ (fun k hk => by rw [hk]; exact H3.out.2.1) hb2.size)⟩
      clear HR
      go_upto_region 10 with (first
        | (go_at_call 41; refine (empty_any _).mono ?_; rintro e w5 ⟨g5, rfl, ho, hg, hb⟩; have H5 : Hid (OwnB w5 g5 512 zs ∧ Below wr.heap.size wr w5) := ⟨ho, hb⟩; clear ho hg hb)
        | (go_at_call 40; refine (HW.out _ _ _ H5.out.2 H5.out.1).mono ?_; rintro e w6 ⟨rfl, h1, b1⟩; have H6 : Hid (OwnB w6 g cap (behind F nb) ∧ Below w2.heap.size w2 w6) := ⟨h1, b1⟩; clear h1 b1))
      have hp : w6.heap[w.heap.size]? = some (.cells #[.int .i64 0] 37 (0, 0)) := (H6.out.2.block _ (heap_lt HA.out.2.2)).trans HA.out.2.2
      have HP6 : Hid (w6.heap[w.heap.size]? = some (.cells #[.int .i64 0] 37 (0, 0))) := hp
      have c0 : w6.cell? ⟨w.heap.size, 0, none⟩ = some (.int .i64 0) := by rw [cell_of_row _ _ _ _ _ _ hp]; rfl
      have f0 : w6.frozen? ⟨w.heap.size, 0, none⟩ = false := frozen_of_row _ _ _ _ _ hp
      clear hp
      go_wp2
      refine leaves_cons (f := 35) (args := #[.pointer (some ⟨w.heap.size, 0, none⟩)]) (by simp) (by simp [go_sem]) ?_
      refine (catchB_idle ⟨w.heap.size, 0, none⟩ _).mono ?_
      rintro e u' w'' ⟨rfl, rfl, rfl⟩
      have hc : (w6.setCell ⟨w.heap.size, 0, none⟩ (.int .i64 0)).cell? ⟨w.heap.size, 0, none⟩ = some (.int .i64 0) := by rw [cell_of_row _ _ _ _ _ _ (heap_setCell_same _ _ _ _ _ _ HP6.out)]; rfl
      have hgp : g ≠ w.heap.size := fun e => by
        obtain ⟨cur, hcur, _⟩ := H6.out.1.row
        rw [e, HP6.out] at hcur
        exact absurd hcur (by simp)
      have hfin : OwnB (w6.setCell ⟨w.heap.size, 0, none⟩ (.int .i64 0)) g cap (behind F nb) ∧ w.heap.size ≤ g ∧ Below w.heap.size w (w6.setCell ⟨w.heap.size, 0, none⟩ (.int .i64 0)) := by
        have hb6 : Below w.heap.size w w6 := HA.out.2.1.trans (H6.out.2.mono HA.out.2.1.size)
        exact ⟨H6.out.1.fr Fr.set hgp, Nat.le_trans HA.out.2.1.size H3.out.2.1, hb6.trans (Fr.below Fr.set _ (fun k hk => by rw [hk]; exact Nat.le_refl _) hb6.size)⟩
      simp [Leaves, settle, results, Tryd.results13, go_sem, hc]
      exact ⟨g, cap, ⟨rfl, rfl⟩, hfin⟩
end Go.Proofs.YtpheajiepnjhdabDoor

namespace Go.Proofs.YtpheajiepnjhdabDoor
open Go.RowKit Rec

theorem alloc_size (w : World) (o : Obj) : (w.alloc o).heap.size = w.heap.size + 1 := Array.size_push _
theorem wp_make0 {ops : Array Oper} {rest : List Oper} {o : Oper} {a : Act} {Q : Exit → Act → World → Prop} {w : World} (hg : o.guard = none) (l c : Operand) (hop : o.op = Op.makeSlice 49 l c)
    (kl kc : IntKind) (C : Int) (n : Nat) (hl : a.eval l = .int kl 0) (hc : a.eval c = .int kc C) (hC : C = (n : Int)) (hn : n ≤ 4294967296)
    (hK : ∀ w', w'.ownsRow 0 3 1 (.slice (some ⟨w.heap.size, 0, none⟩) 0 n) 0 [] → Below w.heap.size w w' → wpList Tryd.prog ops Q rest (a.put o.dst (.slice (some ⟨w.heap.size, 0, none⟩) 0 n)) w') :
    wpList Tryd.prog ops Q (o :: rest) a w := by
  obtain ⟨i0, hi, hz0, hz1, hz2⟩ := info_parts info3
  refine wpList_make_own w hg l c 49 hop 0 3 i0 _ 1 Tryd.underlying49 hi hz0 hz1 kl kc C n hl hc hC (by rw [hz2]; omega) (by unfold maxLen; omega) (Nat.zero_le _) ?_
  intro w' h1 h2
  exact hK w' h1 ⟨h2.os, h2.tape, h2.output, h2.size, fun k hk => h2.block k hk (by simp)⟩
set_option maxRecDepth 100000 in
set_option maxHeartbeats 1600000 in
theorem pending_any (w : World) (D : Dk) (h : Disk w D) : Calls Tryd.prog 17 #[.pointer (some ⟨D.d, 0, none⟩)] w fun e w' => ∃ g c, e = .returned (.slice (some ⟨g, 0, none⟩) D.pen.length c) ∧ w.heap.size ≤ g ∧ w'.ownsRow 0 3 1 (.slice (some ⟨g, 0, none⟩) D.pen.length c) D.pen.length (D.pen.map (fun p => Value.int .i64 p.b)) ∧ Below w.heap.size w w' := by
  obtain ⟨pa, pc, hv, hpc, hga, hcc⟩ := owns_slice h.pen
  have C1 : w.cell? ⟨D.d, 1, none⟩ = some (.slice pa D.pen.length pc) := by rw [← hv]; exact h.cell 1
  have hpl := h.pl
  have HD : Hid (Disk w D) := h
  have HV : Hid (D.pv = .slice pa D.pen.length pc ∧ (D.pen.length = 0 ∨ ∃ g, pa = some ⟨g, 0, none⟩)) := ⟨hv, hga⟩
  obtain ⟨i1, j1, j2, j3, j4⟩ := info_parts info3
  clear h hcc hv hga
  go_enter Tryd.func17, Tryd.ntmps17
  go_wp2_with (at_make; refine wp_make0 rfl _ _ rfl _ _ _ D.pen.length rfl rfl (by rfl) hpl ?_; intro w1 ho hb; have HO : Hid (w1.ownsRow 0 3 1 (.slice (some ⟨w.heap.size, 0, none⟩) 0 D.pen.length) 0 []) := ho; have HB : Hid (Below w.heap.size w w1) := hb; have C1' : w1.cell? ⟨D.d, 1, none⟩ = some (.slice pa D.pen.length pc) := (below_fr hb (fun _ => False)).cell C1 (fun e => e); clear ho hb)
  clear C1 C1'
  go_loopw [3, 5, 17, 18, 19, 20, 21, 22, 23, 24, 25, 26] (fun b _ i _ _ _ _ _ _ _ _ _ wr => ∃ k g c : Nat, k ≤ D.pen.length ∧ i = .int .i64 k ∧ b = .slice (some ⟨g, 0, none⟩) k c ∧ w.heap.size ≤ g ∧ wr.ownsRow 0 3 1 (.slice (some ⟨g, 0, none⟩) k c) k ((D.pen.take k).map (fun p => Value.int .i64 p.b)) ∧ Below w.heap.size w wr) (fun _ _ i _ _ _ _ _ _ _ _ _ _ => D.pen.length - (intOf i).toNat)
  case atStart => exact ⟨0, _, _, Nat.zero_le _, rfl, rfl, Nat.le_refl _, by simpa using HO.out, HB.out⟩
  case round =>
    obtain ⟨k, g, c, hk, rfl, rfl, hg, ho, hb⟩ := hrel
    have HO2 : Hid (wr.ownsRow 0 3 1 (.slice (some ⟨g, 0, none⟩) k c) k ((D.pen.take k).map (fun p => Value.int .i64 p.b))) := ho
    have HB2 : Hid (Below w.heap.size w wr) := hb
    clear ho hb HO HB
    by_cases hlt : k < D.pen.length
    · obtain ⟨p, hpk, hp, hfk, hxk, c1, c2⟩ := penX D k hlt
      have hd2 := HD.out.on HB2.out
      obtain ⟨pa', pc', hv', _, _, hcc⟩ := owns_slice hd2.pen
      rw [HV.out.1] at hv'
      cases hv'
      obtain ⟨gp, rfl⟩ := HV.out.2.resolve_left (by omega)
      have d1 := (hcc gp 0 rfl).2.1 _ _ c1
      have d2 := (hcc gp 0 rfl).2.1 _ _ c2
      have HP : Hid ((D.pen.take k).map (fun p => Value.int .i64 p.b) ++ [Value.int .i64 p.b] = (D.pen.take (k + 1)).map (fun p => Value.int .i64 p.b)) := by
        show _ = _
        rw [List.take_add_one, hpk, List.map_append]; rfl
      clear hcc c1 c2 hp hfk hxk hpk hd2
      have HA : Hid (Below wr.heap.size wr ((wr.alloc (.cells #[.int .i64 p.b, .slice (some ⟨p.g, 0, none⟩) 512 p.cap] 87)).alloc (.cells #[.int .i64 p.b] 3))) := ((Below.refl _ _).alloc (Nat.le_refl _) _).alloc (by simp) _
      have hrow := heap_alloc_new (wr.alloc (.cells #[.int .i64 p.b, .slice (some ⟨p.g, 0, none⟩) 512 p.cap] 87)) (.cells #[.int .i64 p.b] 3)
      rw [alloc_size] at hrow
      have HN : Hid (∀ j u, [Value.int .i64 p.b][j]? = some u → ((wr.alloc (.cells #[.int .i64 p.b, .slice (some ⟨p.g, 0, none⟩) 512 p.cap] 87)).alloc (.cells #[.int .i64 p.b] 3)).cell? ((⟨wr.heap.size + 1, 0, none⟩ : Addr).add j) = some u) := news_of hrow _ rfl
      have HW : Hid (((wr.alloc (.cells #[.int .i64 p.b, .slice (some ⟨p.g, 0, none⟩) 512 p.cap] 87)).alloc (.cells #[.int .i64 p.b] 3)).ownsRow 0 3 1 (.slice (some ⟨g, 0, none⟩) k c) k ((D.pen.take k).map (fun p => Value.int .i64 p.b))) := owns_fr HO2.out (below_fr HA.out (fun j => wr.heap.size ≤ j)) (fun j hj => by cases hj; exact Nat.not_le.2 (owns_block HO2.out rfl))
      clear hrow
      go_wp2_with (at_builtin; refine wp_own rfl (.tmp 21) (.tmp 24) 49 rfl 3 i1 _ 1 8 Tryd.underlying49 j1 j2 j3 j4 rfl (by decide) (.slice (some ⟨g, 0, none⟩) k c) k ((D.pen.take k).map (fun p => Value.int .i64 p.b)) rfl HW.out ⟨wr.heap.size + 1, 0, none⟩ 1 1 [Value.int .i64 p.b] rfl (by decide) rfl HN.out (by intro u hu; simp at hu; subst hu; rfl) (by unfold maxLen; omega) (by omega) ?_; intro g' c' w3 ho hf hgp; have HZ : Hid (w3.ownsRow 0 3 1 (.slice (some ⟨g', 0, none⟩) (k + 1) c') (k + 1) ((D.pen.take (k + 1)).map (fun p => Value.int .i64 p.b)) ∧ w.heap.size ≤ g' ∧ Below w.heap.size w w3) := ⟨by rw [← HP.out]; exact ho, hgp.elim (fun e => by cases e; exact hg) (fun e => Nat.le_trans HB2.out.size (Nat.le_trans HA.out.size e)), (HB2.out.trans (HA.out.mono HB2.out.size)).trans (hf.below w.heap.size (fun j hj => by cases hj; exact hg) (Nat.le_trans HB2.out.size HA.out.size))⟩; clear ho hf hgp)
      exact ⟨⟨_, _, _, hlt, rfl, rfl, HZ.out.2.1, HZ.out.1, HZ.out.2.2⟩, by simp [intOf]; omega⟩
    · obtain rfl : k = D.pen.length := by omega
      go_wp2
      go_ret
      exact ⟨_, _, rfl, hg, by simpa using HO2.out, HB2.out⟩
end Go.Proofs.YtpheajiepnjhdabDoor

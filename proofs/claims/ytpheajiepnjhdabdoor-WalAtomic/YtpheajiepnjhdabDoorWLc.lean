import Derived.Test.YtpheajiepnjhdabDoorKWRo
namespace Go.Proofs.YtpheajiepnjhdabDoor
open Go.RowKit Rec

theorem homes_take (L : List Bk) (j : Nat) (q : Bk) (hq : L[j]? = some q) (m : Nat) (hm : q.n = (m : Int)) : (homes (nsB L) (dsB L)).take (j + 1) = (homes (nsB L) (dsB L)).take j ++ [(m, q.x)] := by
  have hj : j < L.length := (List.getElem?_eq_some_iff.1 hq).1
  have hl : (homes (nsB L) (dsB L)).length = L.length := by rw [homes_length _ _ (by simp [nsB, dsB])]; simp [nsB]
  rw [List.take_add_one, List.getElem?_eq_getElem (by rw [hl]; exact hj), homes_get, nth_nsB L j q hq, row_dsB L j q hq, hm]; rfl
set_option maxRecDepth 100000 in
set_option maxHeartbeats 4000000 in
theorem laid_any (w : World) (gi ci nb : Nat) (l : List Int) (hI : Bytes w (some ⟨gi, 0, none⟩) l) (hl : l.length = 512 * nb) (hnb : nb ≤ 16384) (a : Option Addr) (n c : Nat) (L : List Bk) (hn : L.length = n) (hL : n = 0 ∨ ∃ b, a = some ⟨b, 0, none⟩ ∧ BlocksAt w b L) (hB : ∀ q ∈ L, 0 ≤ q.n ∧ q.n < nb) (hn2 : n ≤ 1000) :
    Calls Tryd.prog 8 #[.slice (some ⟨gi, 0, none⟩) (512 * nb : Nat) ci, .slice a n c] w fun e w' => ∃ g cap, e = .returned (.slice (some ⟨g, 0, none⟩) (512 * nb : Nat) cap) ∧ OwnB w' g cap (fw l (homes (nsB L) (dsB L))) ∧ w.heap.size ≤ g ∧ Below w.heap.size w w' := by
  have HI : Hid (Bytes w (some ⟨gi, 0, none⟩) l ∧ l.length = 512 * nb) := ⟨hI, hl⟩
  have HL : Hid (L.length = n ∧ (n = 0 ∨ ∃ b, a = some ⟨b, 0, none⟩ ∧ BlocksAt w b L)) := ⟨hn, hL⟩
  have HQ : Hid (∀ q ∈ L, 0 ≤ q.n ∧ q.n < nb) := hB
  clear hI hl hn hL hB
  go_enter Tryd.func8, Tryd.ntmps8
  have HA0 : Hid (OwnB (w.alloc (.cells #[] 5)) w.heap.size 0 [] ∧ Below w.heap.size w (w.alloc (.cells #[] 5))) := ⟨own_empty (heap_alloc_new _ _), (Below.refl _ _).alloc (Nat.le_refl _) _⟩
  go_upto_region 2 with (at_builtin; refine wp_app rfl (.tmp 7) (.tmp 8) rfl w.heap.size w.heap.size 0 0 [] l rfl rfl HA0.out.1 (Nat.le_refl _) HA0.out.2.size (some ⟨gi, 0, none⟩) (512 * nb) ci rfl HI.out.2 (HI.out.1.on HA0.out.2) (fun e => by cases e) (by omega) ?_; intro g1 cap1 w1 hg ho hb; have H1 : Hid (OwnB w1 g1 cap1 l ∧ w.heap.size ≤ g1 ∧ Below w.heap.size w w1) := ⟨ho, hg, HA0.out.2.trans (below_of hb (Nat.le_refl _) HA0.out.2.size)⟩; clear ho hg hb)
  clear HA0
  go_wp2
  go_loopw [6] (fun s wr => ∃ j : Nat, j ≤ n ∧ s = .int .i64 j ∧ OwnB wr g1 cap1 (fw l ((homes (nsB L) (dsB L)).take j)) ∧ Below w.heap.size w wr) (fun s _ => n - (intOf s).toNat)
  case atStart => exact ⟨0, Nat.zero_le _, rfl, H1.out.1, H1.out.2.2⟩
  case round =>
    obtain ⟨j, hj, rfl, ho, hb⟩ := hrel
    have HR : Hid (OwnB wr g1 cap1 (fw l ((homes (nsB L) (dsB L)).take j)) ∧ Below w.heap.size w wr) := ⟨ho, hb⟩
    clear ho hb
    by_cases hlt : j < n
    · obtain ⟨q, hq⟩ : ∃ q, L[j]? = some q := ⟨L[j]'(by rw [HL.out.1]; exact hlt), List.getElem?_eq_getElem _⟩
      obtain ⟨b, e, hbl⟩ := HL.out.2.resolve_left (by omega)
      subst e
      obtain ⟨c1, c2, c3⟩ := (hbl.on HR.out.2).at_ j q hq
      obtain ⟨hq1, hq2⟩ := HQ.out q (List.mem_of_getElem? hq)
      obtain ⟨m, hm⟩ : ∃ m : Nat, q.n = (m : Int) := ⟨q.n.toNat, by omega⟩
      have HT := homes_take L j q hq m hm
      have hm2 : m < nb := by omega
      have hroom := HR.out.1.room
      have htop := HR.out.1.top
      rw [fw_length, HI.out.2] at hroom
      unfold maxLen at htop
      have HX : Hid (Bytes wr (some ⟨q.g, 0, none⟩) q.x ∧ q.x.length = 512) := ⟨c3.bytes, c3.len⟩
      have HLen : Hid ((fw l ((homes (nsB L) (dsB L)).take j)).length = 512 * nb) := by rw [fw_length]; exact HI.out.2
      have HT2 : Hid (fw l ((homes (nsB L) (dsB L)).take (j + 1)) = Rec.wr (fw l ((homes (nsB L) (dsB L)).take j)) m q.x) := by rw [HT, fw_append]; rfl
      rw [hm] at c1
      replace c2 : wr.cell? ⟨b, j * 2 + 1, none⟩ = some (.slice (some ⟨q.g, 0, none⟩) 512 q.c) := c2
      clear c3 hbl HT
      have HB : Hid (Below wr.heap.size wr wr.drew) := (Below.refl _ wr).drew
      have q1 : IntKind.i64.wrap (512 * (m : Int)) = 512 * (m : Int) := by rw [IntKind.wrap_i64]; omega
      have q2 : IntKind.i64.wrap (512 * (m : Int) + 512) = 512 * (m : Int) + 512 := by rw [IntKind.wrap_i64]; omega
      have q3 : 0 ≤ 512 * (m : Int) + 512 := by omega
      have q4 : 512 * (m : Int) + 512 ≤ (cap1 : Int) := by omega
      have q5 : 0 ≤ 512 * (m : Int) := by omega
      have q6 : max (512 * (m : Int) + 512) 0 = 512 * (m : Int) + 512 := by omega
      have q7 : 512 * (m : Int) ≤ 512 * (m : Int) + 512 := by omega
      have q8 : (512 * (m : Int)).toNat = 512 * m := by omega
      have q9 : (512 * (m : Int) + 512).toNat = 512 * m + 512 := by omega
      have q10 : ¬ cap1 = 512 * m := by omega
      go_wp2
      go_region_law (first
        | (refine step_copyB rfl (.tmp 30) (.tmp 35) rfl g1 cap1 (512 * m) 512 (cap1 - 512 * m) (fw l ((homes (nsB L) (dsB L)).take j)) ⟨q.g, 0, none⟩ 512 q.c q.x (by simp [Act.eval, Act.put]) (by simp [Act.eval, Act.put]) (HR.out.1.on HB.out) (HX.out.1.on HB.out) HX.out.2 (Nat.le_refl _) (by rw [HLen.out]; omega) ?_; intro w3 ho hf; have H3 : Hid (OwnB w3 g1 cap1 (fw l ((homes (nsB L) (dsB L)).take (j + 1))) ∧ Below w.heap.size w w3) := ⟨(by rw [HT2.out]; exact ho), (HR.out.2.trans (HB.out.mono HR.out.2.size)).trans (hf.below _ (fun k hk => by rw [hk]; exact H1.out.2.1) (Nat.le_trans HR.out.2.size HB.out.size))⟩; clear ho hf)
        | go_simp)
      all_goals
        go_wp2
        go_round
        case rel => exact ⟨j + 1, by omega, by go_num, H3.out⟩
        case measure => simp [intOf]; omega
    · have e : j = n := by omega
      subst e
      go_wp2
      go_ret
      have := HR.out
      rw [List.take_of_length_le (by rw [homes_length _ _ (by simp [nsB, dsB])]; simp [nsB, HL.out.1])] at this
      exact ⟨g1, cap1, rfl, this.1, H1.out.2.1, this.2⟩
end Go.Proofs.YtpheajiepnjhdabDoor

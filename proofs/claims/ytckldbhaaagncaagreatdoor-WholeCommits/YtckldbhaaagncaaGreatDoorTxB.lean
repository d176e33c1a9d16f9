import Derived.Test.YtckldbhaaagncaaGreatDoorKTxP
namespace Go.Proofs.YtckldbhaaagncaaGreatDoor
open Go.RowKit Go.Maps Rec

/-- the blocks so far -/
structure BlRow (w0 wr : World) (L : List Bk) (k : Nat) (v : Value) : Prop where
  row : wr.ownsRow 0 93 2 v k ((L.take k).flatMap Bk.cells)
  far : ∀ b, v.ownBlock = some b → w0.heap.size ≤ b
  bel : Below w0.heap.size w0 wr
theorem cells_bk (q : Bk) : ∀ u ∈ q.cells, u.oneCell' = true := fun u hu => by
  simp [Bk.cells, Bk.v] at hu
  rcases hu with rfl | rfl <;> rfl
theorem BlRow.next {w0 wr w1 w' : World} {L : List Bk} {k g2 c2 : Nat} {v : Value} {q : Bk} (h : BlRow w0 wr L k v) (hq : L[k]? = some q) (hb : Below wr.heap.size wr w1)
    (h1 : w'.ownsRow 0 93 2 (.slice (some ⟨g2, 0, none⟩) (k + 1) c2) (k + 1) ((L.take k).flatMap Bk.cells ++ q.cells)) (h2 : Fr (fun b => v.ownBlock = some b) w1 w') (h3 : v.ownBlock = some g2 ∨ w1.heap.size ≤ g2) :
    BlRow w0 w' L (k + 1) (.slice (some ⟨g2, 0, none⟩) (k + 1) c2) := by
  have e : (L.take (k + 1)).flatMap Bk.cells = (L.take k).flatMap Bk.cells ++ q.cells := by
    rw [List.take_add_one, hq]
    simp
  have hs := h.bel.size
  have hs1 := hb.size
  refine ⟨by rw [e]; exact h1, fun b hk => ?_, (h.bel.trans (hb.mono hs)).trans (h2.below _ h.far (by omega))⟩
  cases hk
  rcases h3 with e | e
  · exact h.far _ e
  · show w0.heap.size ≤ g2
    omega
set_option maxRecDepth 100000 in
set_option maxHeartbeats 4000000 in
theorem tblocks_any (w : World) (T : Tx) (h : TxAt w T) :
    Calls Tryz.prog 28 #[.pointer (some ⟨T.t, 0, none⟩)] w fun e w' => ∃ va vc, e = .returned (.slice va (lst T.c T.nb).length vc) ∧ (lst T.c T.nb = [] ∨ ∃ g, va = some ⟨g, 0, none⟩ ∧ BlocksAt w' g (lst T.c T.nb)) ∧ Below w.heap.size w w' := by
  obtain ⟨L, hL⟩ : ∃ L, lst T.c T.nb = L := ⟨_, rfl⟩
  obtain ⟨n, hn⟩ : ∃ n, L.length = n := ⟨_, rfl⟩
  have hn96 : n ≤ 96 := by rw [← hn, ← hL]; exact h.cnt
  have HW : Hid (Calls Tryz.prog 42 #[.pointer (some ⟨T.t, 0, none⟩)] w fun e w' => ∃ a c, e = .returned (.slice a n c) ∧ n ≤ c ∧ (n = 0 ∨ ∃ g, a = some ⟨g, 0, none⟩ ∧ g < w'.heap.size ∧ ∀ j q, L[j]? = some q → w'.cell? ⟨g, j, none⟩ = some (.int .i64 q.n)) ∧ Below w.heap.size w w') := by
    refine (written_any w T h).mono ?_
    rintro e w' ⟨v, rfl, hr, _, hb⟩
    rw [hL, hn] at hr
    rcases hr.2 with ⟨rfl, h0⟩ | ⟨g, cap, cur, rfl, h1, hg, h2, h3, h4, h5⟩
    · exact ⟨none, 0, by rw [h0], by omega, .inl h0, hb⟩
    · refine ⟨some ⟨g, 0, none⟩, cap, rfl, h2, .inr ⟨g, rfl, heap_lt hg, fun j q hq => ?_⟩, hb⟩
      have hj : j < n := by rw [← hn]; exact (List.getElem?_eq_some_iff.1 hq).1
      have := hr.cells (g := g) rfl j (.int .i64 q.n) (by simp [hq])
      rw [Addr.add_lit] at this
      simpa using this
  have HM : Hid (∀ wx, Below w.heap.size w wx → ∀ (j : Nat) q, L[j]? = some q → wx.cell? ⟨T.t, 1, none⟩ = some (.map (some T.mb)) ∧ (Instr.lookup 58 (.map (some T.mb)) (.int .i64 q.n) false).run Tryz.prog wx = .ok (.slice (some ⟨q.g, 0, none⟩) 512 q.c) wx ∧ BlkAt wx q.g q.x) := fun wx hb j q hq => by
    have hx := h.on hb
    have hm : q ∈ lst T.c T.nb := by rw [hL]; exact List.mem_of_getElem? hq
    obtain ⟨i, hi, hc⟩ := lst_mem hm
    have hl := hx.map.look1 hx.ok i (by have := h.n16; omega)
    rw [hc] at hl
    rw [h.ok.num i q hc]
    exact ⟨hx.cell 1, hl, hx.blk i q hc⟩
  have HN : Hid (L.length = n) := hn
  rw [hL, hn]
  clear h hL hn
  go_enter Tryz.func28, Tryz.ntmps28
  go_upto_region 3 with (go_at_call 42; refine HW.out.mono ?_; rintro e w1 ⟨a, c, rfl, hnc, hr, hb⟩; have H1 : Hid (n = 0 ∨ ∃ g, a = some ⟨g, 0, none⟩ ∧ g < w1.heap.size ∧ ∀ j q, L[j]? = some q → w1.cell? ⟨g, j, none⟩ = some (.int .i64 q.n)) := hr; have HB1 : Hid (Below w.heap.size w w1) := hb; clear hr hb HW)
  go_loopw [3, 9] (fun s3 s9 wr => ∃ k : Nat, k ≤ n ∧ s9 = .int .i64 k ∧ BlRow w1 wr L k s3) (fun _ s _ => n - (intOf s).toNat)
  case atStart => exact ⟨0, Nat.zero_le _, rfl, ⟨⟨rfl, .inl ⟨rfl, rfl⟩⟩, (fun b hb => by cases hb), by repeat (first | exact Below.refl _ _ | apply Below.drew)⟩⟩
  case round =>
    obtain ⟨k, hk, rfl, hR⟩ := hrel
    have HR : Hid (BlRow w1 wr L k u3) := hR
    clear hR
    by_cases hlt : k < n
    · obtain ⟨q, hq⟩ : ∃ q, L[k]? = some q := ⟨L[k]'(by rw [HN.out]; exact hlt), List.getElem?_eq_getElem _⟩
      obtain ⟨g, rfl, hgl, hgc⟩ := H1.out.resolve_left (by omega)
      have hc : wr.cell? ⟨g, k, none⟩ = some (.int .i64 q.n) := (HR.out.bel.cell hgl).trans (hgc k q hq)
      obtain ⟨hm1, hm2, _⟩ := HM.out wr (HB1.out.trans (HR.out.bel.mono HB1.out.size)) k q hq
      have HQ : Hid (L[k]? = some q) := hq
      clear hgc hq
      obtain ⟨qn, hqn⟩ : ∃ qn, q.n = qn := ⟨_, rfl⟩
      obtain ⟨qg, hqg⟩ : ∃ qg, q.g = qg := ⟨_, rfl⟩
      obtain ⟨qc, hqc⟩ : ∃ qc, q.c = qc := ⟨_, rfl⟩
      rw [hqn] at hc hm2
      rw [hqg, hqc] at hm2
      have HE : Hid (q.cells = [.int .i64 qn, .slice (some ⟨qg, 0, none⟩) 512 qc]) := by simp [Hid, Bk.cells, Bk.v, hqn, hqg, hqc]
      clear hqn hqg hqc
      go_wp2_with (at_builtin; refine wp_kown rfl (.tmp 13) (.tmp 22) rfl u3 k ((L.take k).flatMap Bk.cells) rfl (owns_on HR.out.row ((Below.refl _ _).alloc (Nat.le_refl _) _)) ⟨wr.heap.size, 0, none⟩ 1 1 [.int .i64 qn, .slice (some ⟨qg, 0, none⟩) 512 qc] rfl (by omega) rfl (blkcells wr qn qg qc) (by intro u hu; simp at hu; rcases hu with rfl | rfl <;> rfl) (by omega) ?_; intro g2 c2 w2 ho hf hg; have H2 : Hid (BlRow w1 w2 L (k + 1) (.slice (some ⟨g2, 0, none⟩) (k + 1) c2)) := HR.out.next HQ.out ((Below.refl _ _).alloc (Nat.le_refl _) _) (by rw [HE.out]; exact ho) hf hg; clear ho hf hg)
      exact ⟨⟨k + 1, hlt, rfl, H2.out⟩, by simp [intOf]; omega⟩
    · obtain rfl : k = n := by omega
      obtain ⟨va, vc, hv, hx⟩ : ∃ va vc, u3 = .slice va k vc ∧ (L = [] ∨ ∃ g, va = some ⟨g, 0, none⟩ ∧ BlocksAt wr g L) := by
        rcases HR.out.row.2 with ⟨rfl, h0⟩ | ⟨g, cap, cur, rfl, h1, hg, h2, h3, h4, h5⟩
        · exact ⟨none, 0, by rw [h0], .inl (List.eq_nil_of_length_eq_zero (by rw [HN.out]; exact h0))⟩
        · refine ⟨some ⟨g, 0, none⟩, cap, rfl, .inr ⟨g, rfl, ⟨fun i q hq => ?_⟩⟩⟩
          have hi : i < L.length := (List.getElem?_eq_some_iff.1 hq).1
          have hq' : L[i] = q := (List.getElem?_eq_some_iff.1 hq).2
          have hf : ∀ j, j < 2 → (L.flatMap Bk.cells)[i * 2 + j]? = q.cells[j]? := fun j hj => by
            rw [← hq']
            exact flatK Bk.cells L i hi j hj (fun _ => rfl)
          have hrow := HR.out.row
          rw [List.take_of_length_le (Nat.le_of_eq HN.out)] at hrow
          have h0 := hrow.cells (g := g) rfl (i * 2 + 0) (.int .i64 q.n) (by rw [hf 0 (by omega)]; rfl)
          have h1 := hrow.cells (g := g) rfl (i * 2 + 1) q.v (by rw [hf 1 (by omega)]; rfl)
          rw [Addr.add_lit] at h0 h1
          simp only [Nat.zero_add, Nat.add_zero] at h0 h1
          exact ⟨h0, h1, (HM.out wr (HB1.out.trans (HR.out.bel.mono HB1.out.size)) i q hq).2.2⟩
      subst hv
      have HX : Hid (L = [] ∨ ∃ g, va = some ⟨g, 0, none⟩ ∧ BlocksAt wr g L) := hx
      clear hx
      go_wp2
      go_ret
      exact ⟨va, vc, rfl, HX.out, HB1.out.trans (HR.out.bel.mono HB1.out.size)⟩
end Go.Proofs.YtckldbhaaagncaaGreatDoor

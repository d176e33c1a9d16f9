import Derived.Test.YtccocjipgbeaeabPend
namespace Go.Proofs.Ytccocjipgbeaeab
open Go.RowKit Adk

/-- what a put does -/
def AD.do (a : AD) (b x : Int) (fl : Bool) : AD := if fl then a.flush else a.write (b % a.nb).toNat (one x)
set_option maxRecDepth 100000 in
set_option maxHeartbeats 1600000 in
theorem do_flush (w : World) (D : Dk) (h : Disk w D) (b x : Int) (hd : D.down = false) (hr : Room D.abs) :
    Calls Try.prog 8 #[.pointer (some ⟨D.d, 0, none⟩), .agg #[.int .i64 b, .int .u8 x, .bool true]] w fun e w' => e = .returned (.int .i64 D.abs.stepE) ∧ ∃ D', Disk w' D' ∧ Mv w D w' D' ∧ Al w.heap.size D D' ∧ D'.abs = D.abs.do b x true := by
  have HA : Hid (Below w.heap.size w (w.alloc (.cells #[.int .i64 b, .int .u8 x, .bool true] 34))) := (Below.refl _ _).alloc (Nat.le_refl _) _
  have HD : Hid (Disk w D) := h
  clear h
  go_enter Try.func8, Try.ntmps8
  go_wp2_with (go_at_call 29; refine (flush_yes _ D (HD.out.on HA.out) hd hr).mono ?_; rintro e w1 ⟨rfl, D', h1, h2, h4, h3⟩; have HZ : Hid (Disk w1 D' ∧ Mv _ D w1 D' ∧ Al w.heap.size D D' ∧ D'.abs = D.abs.flush) := ⟨h1, h2, fun k hk => (h4 k hk).imp id (Nat.le_trans HA.out.size), h3⟩; clear h1 h2 h3 h4)
  go_ret
  exact ⟨rfl, _, HZ.out.1, (mv_on _ _ _ HA.out).trans HZ.out.2.1, HZ.out.2.2⟩
set_option maxRecDepth 100000 in
set_option maxHeartbeats 4000000 in
theorem do_write (w : World) (D : Dk) (h : Disk w D) (b x : Int) (hx : 0 ≤ x ∧ x < 256) (hd : D.down = false) (hr : Room D.abs) :
    Calls Try.prog 8 #[.pointer (some ⟨D.d, 0, none⟩), .agg #[.int .i64 b, .int .u8 x, .bool false]] w fun e w' => e = .returned (.int .i64 D.abs.stepE) ∧ ∃ D', Disk w' D' ∧ Mv w D w' D' ∧ Al w.heap.size D D' ∧ D'.abs = D.abs.do b x false := by
  have HA : Hid (Below w.heap.size w (w.alloc (.cells #[.int .i64 b, .int .u8 x, .bool false] 34))) := (Below.refl _ _).alloc (Nat.le_refl _) _
  have HR := heap_alloc_new w (.cells #[.int .i64 b, .int .u8 x, .bool false] 34)
  have HC : Hid (∀ j, (w.alloc (.cells #[.int .i64 b, .int .u8 x, .bool false] 34)).cell? ⟨w.heap.size, j, none⟩ = (#[Value.int .i64 b, .int .u8 x, .bool false])[j]?) := fun j => cell_of_row _ _ _ _ _ _ HR
  have HD0 : Hid (Disk w D) := h
  have hlt := h.lt
  have hn1 := h.nb1
  have hn0 := h.nb0
  clear h HR
  obtain ⟨i, hi⟩ : ∃ i : Nat, b % (D.nb : Int) = (i : Int) := ⟨(b % (D.nb : Int)).toNat, by have := Int.emod_nonneg b (b := (D.nb : Int)) (by omega); omega⟩
  have hin : i < D.nb := by have := Int.emod_lt_of_pos b (b := (D.nb : Int)) (by omega); omega
  have HI : Hid (b % (D.nb : Int) = (i : Int)) := hi
  clear hi
  go_enter Try.func8, Try.ntmps8
  go_upto_region 3 with fail
  generalize hwa : w.alloc (.cells #[.int .i64 b, .int .u8 x, .bool false] 34) = wa at *
  have HB0 : Hid (Below wa.heap.size wa wa.drew) := (Below.refl _ wa).drew
  have HD : Hid (Disk wa D) := HD0.out.on HA.out
  have S0 : wa.cell? ⟨w.heap.size, 0, none⟩ = some (.int .i64 b) := HC.out 0
  have S1 : wa.cell? ⟨w.heap.size, 1, none⟩ = some (.int .u8 x) := HC.out 1
  clear hwa HC HD0
  have HZ : Hid (∀ w1, Below wa.heap.size wa w1 → ∀ (g : Nat), wa.heap.size ≤ g → OwnB w1 g 512 (one x) → Calls Try.prog 30 #[.pointer (some ⟨D.d, 0, none⟩), .int .i64 i, .slice (some ⟨g, 0, none⟩) 512 512] w1 fun e w' => e = .returned (.int .i64 D.abs.stepE) ∧ ∃ D', Disk w' D' ∧ Mv w D w' D' ∧ Al w.heap.size D D' ∧ D'.abs = D.abs.do b x false) := fun w1 hb1 g hg ho => (write_yes w1 D (HD.out.on hb1) i ⟨g, 0, none⟩ 512 (one x) hin hd ho.bytes (List.length_replicate ..) hr (fun e => absurd (HD.out.hasLt e) (Nat.not_lt.2 hg))).mono (by
    rintro e w' ⟨rfl, D', h1, h2, h4, h3⟩
    refine ⟨rfl, D', h1, ((mv_on _ _ _ HA.out).trans (mv_on _ _ _ hb1)).trans h2, fun k hk => (h4 k hk).imp id (Nat.le_trans (Nat.le_trans HA.out.size hb1.size)), ?_⟩
    rw [h3]
    show _ = D.abs.write (b % (D.nb : Int)).toNat (one x)
    rw [HI.out]; rfl)
  go_region_law (first
    | (go_simp; go_at_call 26; refine (blocks_any _ D (HD.out.on (by first | exact HB1.out | exact HB0.out))).mono ?_; rintro e w' ⟨rfl, rfl⟩)
    | (go_simp; go_at_call 6; refine (mod_any _ b D.nb (by omega) (by omega)).mono ?_; rintro e w' ⟨rfl, rfl⟩; rw [HI.out])
    | (go_simp; go_at_call 24; refine (lblock_any _ x hx).mono ?_; rintro e w1 ⟨rfl, ho, hb⟩; have HB1 : Hid (Below wa.heap.size wa w1) := HB0.out.trans hb; have HO : Hid (OwnB w1 wa.heap.size 512 (one x)) := ho; have S0' : w1.cell? ⟨w.heap.size, 0, none⟩ = some (.int .i64 b) := (below_fr HB1.out (fun _ => False)).cell S0 (fun e => e); clear ho hb)
    | (go_simp; go_at_call 30; refine (HZ.out _ HB1.out _ (Nat.le_refl _) HO.out).mono ?_; rintro e w2 ⟨rfl, hz⟩; have HQ : Hid (∃ D', Disk w2 D' ∧ Mv w D w2 D' ∧ Al w.heap.size D D' ∧ D'.abs = D.abs.do b x false) := hz; clear hz))
  all_goals
    go_wp2
    go_ret
    exact ⟨rfl, HQ.out⟩
end Go.Proofs.Ytccocjipgbeaeab

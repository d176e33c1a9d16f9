import Derived.Test.YtckldbhaaagncaaGreatDoorWFm
namespace Go.Proofs.YtckldbhaaagncaaGreatDoor
open Go.RowKit Rec

theorem ptr_nil (w : World) (p : Addr) : (binOp .eql 24 (.pointer (some p)) (.pointer none)).run Tryz.prog w = .ok (.bool false) w := by
  have h : ∀ d : Nat, (Op.equalIn (d + 1) 24 (.pointer (some p)) (.pointer none)).run Tryz.prog w = .ok false w := fun d => by
    simp [Op.equalIn, run_underlying Tryz.underlying24]
  simp only [binOp]
  simp [Op.equal, Op.maxDepth, h 9999]
theorem nil_bytes (w : World) : Bytes w none [] := ⟨by simp, by intro i; simp [nth], .inl rfl⟩
theorem nth_repl0 (n i : Nat) : nth (List.replicate n 0) i = 0 := by
  by_cases h : i < n
  · simp [nth, List.getD, h]
  · rw [nth_out _ _ (by simp; omega)]
theorem zsA_block (nb b : Nat) (hb : b < nb) : bck (zsA (512 * nb)) b = zs := by
  refine ext_nth (by rw [bck_length _ _ nb (zsA_length _) hb, zs_length]) fun i hi => ?_
  rw [bck_length _ _ nb (zsA_length _) hb] at hi
  rw [nth_bck _ _ _ hi, zsA, nth_repl0, nth_zs]
theorem new_rest (w : World) (nb : Nat) (h0 : 98 ≤ nb) (h1 : nb ≤ 16384) : Calls Tryz.prog 5 #[.int .i64 nb] w fun e w' => ∃ D l, e = .returned (.tuple #[.pointer (some ⟨D.d, 0, none⟩), .int .i64 0]) ∧ Mine w w' D ∧ Rest D.abs nb l ∧ l = zsA (512 * nb) ∧ D.wr = 0 ∧ D.fl = 0 ∧ D.tap = [] ∧ D.keep = [] := by
  refine (new_yes w nb (by omega) h1).mono ?_
  rintro e w' ⟨d, nw, L, capL, rfl, a1, a2, a3, hd, hb⟩
  exact ⟨_, _, rfl, ⟨hd, newDk_all _ _ _ _ _ _ _ a1 a3 a2, hb⟩, ⟨rfl, rfl, rfl, rfl, rfl, zsA_length _, zsA_block nb 1 (by omega)⟩, rfl, rfl, rfl, rfl, rfl⟩
theorem commit_rest (w0 w : World) (D : Dk) (nb : Nat) (l : List Int) (hM : Mine w0 w D) (hR : Rest D.abs nb l) (hT : TabAt w) (b n c : Nat) (L : List Bk) (hL : BlocksAt w b L) (hn : L.length = n) (h0 : 0 < n) (ok : ComOk nb (nsB L) (dsB L)) (ha : ∀ q ∈ L, ¬ D.has q.g) (hr : RoomN D.abs (2 * n + 6)) :
    Calls Tryz.prog 27 #[.pointer (some ⟨D.d, 0, none⟩), .slice (some ⟨b, 0, none⟩) n c] w fun e w' => e = .returned (.int .i64 0) ∧ ∃ E, Mine w0 w' E ∧ E.d = D.d ∧ E.abs = D.abs.all (parts (nsB L) (dsB L)) ∧ Rest E.abs nb (done l nb (nsB L) (dsB L)) ∧ Mv w D w' E := by
  have hnb : D.nb = nb := hR.size
  refine (commit_ok w D hM.disk hT b n c L hL hn h0 (by rw [hnb]; exact ok) ha hr).mono ?_
  rintro e w' ⟨rfl, E, hE⟩
  obtain ⟨e1, e2, e3⟩ := hR.commit ok
  have hab := hE.abs
  rw [e2] at hab
  exact ⟨by rw [e1], E, hM.done hE, hE.mv.d, hab, by rw [hab]; exact e3, hE.mv⟩
theorem ok_fixed (A B : List Int) (hA : A.length = 512) (hB : B.length = 512) (g1 c1 g2 c2 : Nat) : ComOk 100 (nsB [⟨98, g1, c1, A⟩, ⟨99, g2, c2, B⟩]) (dsB [⟨98, g1, c1, A⟩, ⟨99, g2, c2, B⟩]) := by
  refine ⟨by omega, by omega, ?_, by simp [nsB], by simp [nsB], rfl, fun b hb => ?_⟩
  · show may [98, 99] ((100 : Nat) : Int) = true
    decide
  · simp only [dsB, List.map_cons, List.map_nil, List.mem_cons, List.not_mem_nil, or_false] at hb
    rcases hb with rfl | rfl
    · exact hA
    · exact hB
/-- what the fixed law reads -/
theorem fixed_math (A B l : List Int) (hA : A.length = 512) (hB : B.length = 512) (h0 : nth A 0 = 65) (hl : l.length = 512 * 100) (g1 c1 g2 c2 : Nat) (F : List Int) (hF : F = done l 100 (nsB [⟨98, g1, c1, A⟩, ⟨99, g2, c2, B⟩]) (dsB [⟨98, g1, c1, A⟩, ⟨99, g2, c2, B⟩])) :
    bck F 98 = A ∧ bck F 3 = B ∧ nth F 50176 = 65 ∧ nth F 512 = 0 ∧ F.length = 51200 := by
  have ok := ok_fixed A B hA hB g1 c1 g2 c2
  have h1 : bck F 98 = A := by rw [hF]; exact done_in hl ok (98, A) (.head _)
  have h2 : bck F 3 = B := by rw [hF]; exact done_log hl ok 1 (by simp [dsB])
  have h3 : bck F 1 = zs := by rw [hF]; exact done_one hl ok
  refine ⟨h1, h2, ?_, ?_, by rw [hF]; exact done_length hl ok⟩
  · have := nth_bck F 98 0 (by omega)
    rw [h1, h0] at this
    exact this.symm
  · have := nth_bck F 1 0 (by omega)
    rw [h3, nth_zs] at this
    exact this.symm
theorem blocks2 (w : World) (A B : List Int) (g1 c1 g2 c2 : Nat) (hA : BlkAt w g1 A) (hB : BlkAt w g2 B) : BlocksAt (w.alloc (.cells #[.int .i64 98, .slice (some ⟨g1, 0, none⟩) 512 c1, .int .i64 99, .slice (some ⟨g2, 0, none⟩) 512 c2] 93)) w.heap.size [⟨98, g1, c1, A⟩, ⟨99, g2, c2, B⟩] := by
  have hb : Below w.heap.size w (w.alloc (.cells #[.int .i64 98, .slice (some ⟨g1, 0, none⟩) 512 c1, .int .i64 99, .slice (some ⟨g2, 0, none⟩) 512 c2] 93)) := (Below.refl _ _).alloc (Nat.le_refl _) _
  have hc : ∀ j, (w.alloc (.cells #[.int .i64 98, .slice (some ⟨g1, 0, none⟩) 512 c1, .int .i64 99, .slice (some ⟨g2, 0, none⟩) 512 c2] 93)).cell? ⟨w.heap.size, j, none⟩ = _ := fun j => cell_of_row _ _ _ _ _ _ (heap_alloc_new _ _)
  refine ⟨fun i q hq => ?_⟩
  match i, hq with
  | 0, hq => simp at hq; subst hq; exact ⟨by rw [hc]; rfl, by rw [hc]; rfl, hA.on hb⟩
  | 1, hq => simp at hq; subst hq; exact ⟨by rw [hc]; rfl, by rw [hc]; rfl, hB.on hb⟩
  | i + 2, hq => simp at hq
end Go.Proofs.YtckldbhaaagncaaGreatDoor

import Derived.Test.YtgmccpimpbnnpaaDoorKAlB
import Derived.Laws.EntriesVeiled
import Derived.Test.YtgmccpimpbnnpaaDoorKSpF
namespace Go.Proofs.YtgmccpimpbnnpaaDoor
open Go.RowKit Go.Maps Rec
set_option maxRecDepth 100000 in
theorem ay_new (w : World) (tt n : Nat) (x : Nat → Int) (P : Nat) (hP : w.heap.size = P) : Below w.heap.size w ((((((w.alloc (.cells #[.pointer (some ⟨tt, 0, none⟩)] 26)).alloc (.cells #[.int .i64 (n : Int), .int .i64 98, .int .i64 (gI n), .int .i64 (gD n), .int .i64 (gC n)] 29)).alloc (.cells #[.int .i64 (x 0), .int .i64 (x 1), .int .i64 (x 2), .int .i64 (x 3), .int .i64 (x 4), .int .i64 (x 5), .int .i64 (x 6), .int .i64 (x 7), .int .i64 (x 8), .int .i64 (x 9), .int .i64 (x 10), .int .i64 (x 11), .int .i64 (x 12), .int .i64 (x 13), .int .i64 (x 14)] 35)).alloc (.cells #[.slice none 0 0] 45)).alloc (.cells #[.slice none 0 0] 22)).alloc (.cells #[.func (.func 27) #[] #[.pointer (some ⟨P + 1 + 1 + 1, 0, none⟩), .pointer (some ⟨P + 1 + 1 + 1 + 1, 0, none⟩), .pointer (some ⟨P, 0, none⟩), .pointer (some ⟨P + 1, 0, none⟩), .pointer (some ⟨P + 1 + 1 + 1 + 1 + 1, 0, none⟩)]] 78)) ∧ Ay w ((((((w.alloc (.cells #[.pointer (some ⟨tt, 0, none⟩)] 26)).alloc (.cells #[.int .i64 (n : Int), .int .i64 98, .int .i64 (gI n), .int .i64 (gD n), .int .i64 (gC n)] 29)).alloc (.cells #[.int .i64 (x 0), .int .i64 (x 1), .int .i64 (x 2), .int .i64 (x 3), .int .i64 (x 4), .int .i64 (x 5), .int .i64 (x 6), .int .i64 (x 7), .int .i64 (x 8), .int .i64 (x 9), .int .i64 (x 10), .int .i64 (x 11), .int .i64 (x 12), .int .i64 (x 13), .int .i64 (x 14)] 35)).alloc (.cells #[.slice none 0 0] 45)).alloc (.cells #[.slice none 0 0] 22)).alloc (.cells #[.func (.func 27) #[] #[.pointer (some ⟨P + 1 + 1 + 1, 0, none⟩), .pointer (some ⟨P + 1 + 1 + 1 + 1, 0, none⟩), .pointer (some ⟨P, 0, none⟩), .pointer (some ⟨P + 1, 0, none⟩), .pointer (some ⟨P + 1 + 1 + 1 + 1 + 1, 0, none⟩)]] 78)) P tt n (.slice none 0 0) (.slice none 0 0) [] [] ∧ ((((((w.alloc (.cells #[.pointer (some ⟨tt, 0, none⟩)] 26)).alloc (.cells #[.int .i64 (n : Int), .int .i64 98, .int .i64 (gI n), .int .i64 (gD n), .int .i64 (gC n)] 29)).alloc (.cells #[.int .i64 (x 0), .int .i64 (x 1), .int .i64 (x 2), .int .i64 (x 3), .int .i64 (x 4), .int .i64 (x 5), .int .i64 (x 6), .int .i64 (x 7), .int .i64 (x 8), .int .i64 (x 9), .int .i64 (x 10), .int .i64 (x 11), .int .i64 (x 12), .int .i64 (x 13), .int .i64 (x 14)] 35)).alloc (.cells #[.slice none 0 0] 45)).alloc (.cells #[.slice none 0 0] 22)).alloc (.cells #[.func (.func 27) #[] #[.pointer (some ⟨P + 1 + 1 + 1, 0, none⟩), .pointer (some ⟨P + 1 + 1 + 1 + 1, 0, none⟩), .pointer (some ⟨P, 0, none⟩), .pointer (some ⟨P + 1, 0, none⟩), .pointer (some ⟨P + 1 + 1 + 1 + 1 + 1, 0, none⟩)]] 78)).heap[P + 1 + 1]? = some (.cells #[.int .i64 (x 0), .int .i64 (x 1), .int .i64 (x 2), .int .i64 (x 3), .int .i64 (x 4), .int .i64 (x 5), .int .i64 (x 6), .int .i64 (x 7), .int .i64 (x 8), .int .i64 (x 9), .int .i64 (x 10), .int .i64 (x 11), .int .i64 (x 12), .int .i64 (x 13), .int .i64 (x 14)] 35 (0, 0)) ∧ ((((((w.alloc (.cells #[.pointer (some ⟨tt, 0, none⟩)] 26)).alloc (.cells #[.int .i64 (n : Int), .int .i64 98, .int .i64 (gI n), .int .i64 (gD n), .int .i64 (gC n)] 29)).alloc (.cells #[.int .i64 (x 0), .int .i64 (x 1), .int .i64 (x 2), .int .i64 (x 3), .int .i64 (x 4), .int .i64 (x 5), .int .i64 (x 6), .int .i64 (x 7), .int .i64 (x 8), .int .i64 (x 9), .int .i64 (x 10), .int .i64 (x 11), .int .i64 (x 12), .int .i64 (x 13), .int .i64 (x 14)] 35)).alloc (.cells #[.slice none 0 0] 45)).alloc (.cells #[.slice none 0 0] 22)).alloc (.cells #[.func (.func 27) #[] #[.pointer (some ⟨P + 1 + 1 + 1, 0, none⟩), .pointer (some ⟨P + 1 + 1 + 1 + 1, 0, none⟩), .pointer (some ⟨P, 0, none⟩), .pointer (some ⟨P + 1, 0, none⟩), .pointer (some ⟨P + 1 + 1 + 1 + 1 + 1, 0, none⟩)]] 78)).heap.size = P + 6 := by
  have hb : Below w.heap.size w ((((((w.alloc (.cells #[.pointer (some ⟨tt, 0, none⟩)] 26)).alloc (.cells #[.int .i64 (n : Int), .int .i64 98, .int .i64 (gI n), .int .i64 (gD n), .int .i64 (gC n)] 29)).alloc (.cells #[.int .i64 (x 0), .int .i64 (x 1), .int .i64 (x 2), .int .i64 (x 3), .int .i64 (x 4), .int .i64 (x 5), .int .i64 (x 6), .int .i64 (x 7), .int .i64 (x 8), .int .i64 (x 9), .int .i64 (x 10), .int .i64 (x 11), .int .i64 (x 12), .int .i64 (x 13), .int .i64 (x 14)] 35)).alloc (.cells #[.slice none 0 0] 45)).alloc (.cells #[.slice none 0 0] 22)).alloc (.cells #[.func (.func 27) #[] #[.pointer (some ⟨P + 1 + 1 + 1, 0, none⟩), .pointer (some ⟨P + 1 + 1 + 1 + 1, 0, none⟩), .pointer (some ⟨P, 0, none⟩), .pointer (some ⟨P + 1, 0, none⟩), .pointer (some ⟨P + 1 + 1 + 1 + 1 + 1, 0, none⟩)]] 78)) := ((((((Below.refl _ _).alloc (Nat.le_refl _) _).alloc (by simp) _).alloc (by simp <;> omega) _).alloc (by simp <;> omega) _).alloc (by simp <;> omega) _).alloc (by simp <;> omega) _
  have s1 : ((w.alloc (.cells #[.pointer (some ⟨tt, 0, none⟩)] 26))).heap.size = P + 1 := by simp [hP]
  have s2 : (((w.alloc (.cells #[.pointer (some ⟨tt, 0, none⟩)] 26)).alloc (.cells #[.int .i64 (n : Int), .int .i64 98, .int .i64 (gI n), .int .i64 (gD n), .int .i64 (gC n)] 29))).heap.size = P + 1 + 1 := by simp [hP]
  have s3 : ((((w.alloc (.cells #[.pointer (some ⟨tt, 0, none⟩)] 26)).alloc (.cells #[.int .i64 (n : Int), .int .i64 98, .int .i64 (gI n), .int .i64 (gD n), .int .i64 (gC n)] 29)).alloc (.cells #[.int .i64 (x 0), .int .i64 (x 1), .int .i64 (x 2), .int .i64 (x 3), .int .i64 (x 4), .int .i64 (x 5), .int .i64 (x 6), .int .i64 (x 7), .int .i64 (x 8), .int .i64 (x 9), .int .i64 (x 10), .int .i64 (x 11), .int .i64 (x 12), .int .i64 (x 13), .int .i64 (x 14)] 35))).heap.size = P + 1 + 1 + 1 := by simp [hP]
  have s4 : ((((w.alloc (.cells #[.pointer (some ⟨tt, 0, none⟩)] 26)).alloc (.cells #[.int .i64 (n : Int), .int .i64 98, .int .i64 (gI n), .int .i64 (gD n), .int .i64 (gC n)] 29)).alloc (.cells #[.int .i64 (x 0), .int .i64 (x 1), .int .i64 (x 2), .int .i64 (x 3), .int .i64 (x 4), .int .i64 (x 5), .int .i64 (x 6), .int .i64 (x 7), .int .i64 (x 8), .int .i64 (x 9), .int .i64 (x 10), .int .i64 (x 11), .int .i64 (x 12), .int .i64 (x 13), .int .i64 (x 14)] 35)).alloc (.cells #[.slice none 0 0] 45)).heap.size = P + 1 + 1 + 1 + 1 := by simp [hP]
  have s5 : (((((w.alloc (.cells #[.pointer (some ⟨tt, 0, none⟩)] 26)).alloc (.cells #[.int .i64 (n : Int), .int .i64 98, .int .i64 (gI n), .int .i64 (gD n), .int .i64 (gC n)] 29)).alloc (.cells #[.int .i64 (x 0), .int .i64 (x 1), .int .i64 (x 2), .int .i64 (x 3), .int .i64 (x 4), .int .i64 (x 5), .int .i64 (x 6), .int .i64 (x 7), .int .i64 (x 8), .int .i64 (x 9), .int .i64 (x 10), .int .i64 (x 11), .int .i64 (x 12), .int .i64 (x 13), .int .i64 (x 14)] 35)).alloc (.cells #[.slice none 0 0] 45)).alloc (.cells #[.slice none 0 0] 22)).heap.size = P + 1 + 1 + 1 + 1 + 1 := by simp [hP]
  have e0 := heap_alloc_new w (.cells #[.pointer (some ⟨tt, 0, none⟩)] 26)
  have e1 := heap_alloc_new (w.alloc (.cells #[.pointer (some ⟨tt, 0, none⟩)] 26)) (.cells #[.int .i64 (n : Int), .int .i64 98, .int .i64 (gI n), .int .i64 (gD n), .int .i64 (gC n)] 29)
  have e2 := heap_alloc_new ((w.alloc (.cells #[.pointer (some ⟨tt, 0, none⟩)] 26)).alloc (.cells #[.int .i64 (n : Int), .int .i64 98, .int .i64 (gI n), .int .i64 (gD n), .int .i64 (gC n)] 29)) (.cells #[.int .i64 (x 0), .int .i64 (x 1), .int .i64 (x 2), .int .i64 (x 3), .int .i64 (x 4), .int .i64 (x 5), .int .i64 (x 6), .int .i64 (x 7), .int .i64 (x 8), .int .i64 (x 9), .int .i64 (x 10), .int .i64 (x 11), .int .i64 (x 12), .int .i64 (x 13), .int .i64 (x 14)] 35)
  have e3 := heap_alloc_new (((w.alloc (.cells #[.pointer (some ⟨tt, 0, none⟩)] 26)).alloc (.cells #[.int .i64 (n : Int), .int .i64 98, .int .i64 (gI n), .int .i64 (gD n), .int .i64 (gC n)] 29)).alloc (.cells #[.int .i64 (x 0), .int .i64 (x 1), .int .i64 (x 2), .int .i64 (x 3), .int .i64 (x 4), .int .i64 (x 5), .int .i64 (x 6), .int .i64 (x 7), .int .i64 (x 8), .int .i64 (x 9), .int .i64 (x 10), .int .i64 (x 11), .int .i64 (x 12), .int .i64 (x 13), .int .i64 (x 14)] 35)) (.cells #[.slice none 0 0] 45)
  have e4 := heap_alloc_new ((((w.alloc (.cells #[.pointer (some ⟨tt, 0, none⟩)] 26)).alloc (.cells #[.int .i64 (n : Int), .int .i64 98, .int .i64 (gI n), .int .i64 (gD n), .int .i64 (gC n)] 29)).alloc (.cells #[.int .i64 (x 0), .int .i64 (x 1), .int .i64 (x 2), .int .i64 (x 3), .int .i64 (x 4), .int .i64 (x 5), .int .i64 (x 6), .int .i64 (x 7), .int .i64 (x 8), .int .i64 (x 9), .int .i64 (x 10), .int .i64 (x 11), .int .i64 (x 12), .int .i64 (x 13), .int .i64 (x 14)] 35)).alloc (.cells #[.slice none 0 0] 45)) (.cells #[.slice none 0 0] 22)
  have e5 := heap_alloc_new (((((w.alloc (.cells #[.pointer (some ⟨tt, 0, none⟩)] 26)).alloc (.cells #[.int .i64 (n : Int), .int .i64 98, .int .i64 (gI n), .int .i64 (gD n), .int .i64 (gC n)] 29)).alloc (.cells #[.int .i64 (x 0), .int .i64 (x 1), .int .i64 (x 2), .int .i64 (x 3), .int .i64 (x 4), .int .i64 (x 5), .int .i64 (x 6), .int .i64 (x 7), .int .i64 (x 8), .int .i64 (x 9), .int .i64 (x 10), .int .i64 (x 11), .int .i64 (x 12), .int .i64 (x 13), .int .i64 (x 14)] 35)).alloc (.cells #[.slice none 0 0] 45)).alloc (.cells #[.slice none 0 0] 22)) (.cells #[.func (.func 27) #[] #[.pointer (some ⟨P + 1 + 1 + 1, 0, none⟩), .pointer (some ⟨P + 1 + 1 + 1 + 1, 0, none⟩), .pointer (some ⟨P, 0, none⟩), .pointer (some ⟨P + 1, 0, none⟩), .pointer (some ⟨P + 1 + 1 + 1 + 1 + 1, 0, none⟩)]] 78)
  rw [hP] at e0
  rw [s1] at e1
  rw [s2] at e2
  rw [s3] at e3
  rw [s4] at e4
  rw [s5] at e5
  have up : ∀ {v : World} {o : Obj} {k : Nat} {q : Obj}, v.heap[k]? = some q → (v.alloc o).heap[k]? = some q := fun {v o k q} h => (Below.heap_alloc _ _ _ (heap_lt h)).trans h
  refine ⟨hb, ⟨hb, by omega, up (up (up (up (up e0)))), up (up (up (up e1))), up (up e3), up e4, e5, ⟨rfl, .inl ⟨rfl, rfl⟩⟩, ⟨rfl, .inl ⟨rfl, rfl⟩⟩, fun _ e => (by cases e), fun _ e => (by cases e), fun _ e => (by cases e)⟩, up (up (up e2)), by simp [hP]⟩
set_option maxRecDepth 100000 in
set_option maxHeartbeats 8000000 in
theorem all_any (w0 w : World) (D : Dk) (T : Tx) (n : Nat) (h : Spc w0 w D T n) (hT : TabAt w0) (x : Nat → Int) (ν : Nat → Nat) (hw : Wd D T n x ν) :
    Calls Tryd.prog 9 #[.pointer (some ⟨T.t, 0, none⟩), geoV n, inV x] w fun e w' => ∃ vb vt, e = .returned (.tuple #[vb, vt, .int .i64 0]) ∧ w'.ownsRow 0 50 2 vb (allB ν).length (prV (allB ν)) ∧ w'.ownsRow 0 3 1 vt (allT ν).length (natV (allT ν)) ∧ (∀ k, vb.ownBlock = some k → w.heap.size ≤ k) ∧ (∀ k, vt.ownBlock = some k → w.heap.size ≤ k) ∧ Below w.heap.size w w' := by
  obtain ⟨tt, htt⟩ : ∃ tt, T.t = tt := ⟨_, rfl⟩
  obtain ⟨P, hP⟩ : ∃ P, w.heap.size = P := ⟨_, rfl⟩
  have hA := ay_new w tt n x P hP
  obtain ⟨wz, hwz⟩ : ∃ wz, (((((w.alloc (.cells #[.pointer (some ⟨tt, 0, none⟩)] 26)).alloc (.cells #[.int .i64 (n : Int), .int .i64 98, .int .i64 (gI n), .int .i64 (gD n), .int .i64 (gC n)] 29)).alloc (.cells #[.int .i64 (x 0), .int .i64 (x 1), .int .i64 (x 2), .int .i64 (x 3), .int .i64 (x 4), .int .i64 (x 5), .int .i64 (x 6), .int .i64 (x 7), .int .i64 (x 8), .int .i64 (x 9), .int .i64 (x 10), .int .i64 (x 11), .int .i64 (x 12), .int .i64 (x 13), .int .i64 (x 14)] 35)).alloc (.cells #[.slice none 0 0] 45)).alloc (.cells #[.slice none 0 0] 22)).alloc (.cells #[.func (.func 27) #[] #[.pointer (some ⟨P + 1 + 1 + 1, 0, none⟩), .pointer (some ⟨P + 1 + 1 + 1 + 1, 0, none⟩), .pointer (some ⟨P, 0, none⟩), .pointer (some ⟨P + 1, 0, none⟩), .pointer (some ⟨P + 1 + 1 + 1 + 1 + 1, 0, none⟩)]] 78) = wz := ⟨_, rfl⟩
  rw [hwz] at hA
  have HA : Hid (Below w.heap.size w wz ∧ Ay w wz P tt n (.slice none 0 0) (.slice none 0 0) [] [] ∧ wz.heap[P + 1 + 1]? = some (.cells #[.int .i64 (x 0), .int .i64 (x 1), .int .i64 (x 2), .int .i64 (x 3), .int .i64 (x 4), .int .i64 (x 5), .int .i64 (x 6), .int .i64 (x 7), .int .i64 (x 8), .int .i64 (x 9), .int .i64 (x 10), .int .i64 (x 11), .int .i64 (x 12), .int .i64 (x 13), .int .i64 (x 14)] 35 (0, 0)) ∧ wz.heap.size = P + 6 ∧ w.heap.size = P) := ⟨hA.1, hA.2.1, hA.2.2.1, hA.2.2.2, hP⟩
  have HWz := Hid.intro_ hwz
  have HOr : Hid (∀ wx, Below wz.heap.size wz wx → Calls Tryd.prog 20 #[.agg #[.int .i64 (x 0), .int .i64 (x 1), .int .i64 (x 2), .int .i64 (x 3), .int .i64 (x 4), .int .i64 (x 5), .int .i64 (x 6), .int .i64 (x 7), .int .i64 (x 8), .int .i64 (x 9), .int .i64 (x 10), .int .i64 (x 11), .int .i64 (x 12), .int .i64 (x 13), .int .i64 (x 14)]] wx fun e w' => ∃ g cap, e = .returned (.agg #[.int .i64 0, .slice (some ⟨g, 0, none⟩) 12 cap]) ∧ P + 6 ≤ g ∧ OwnI w' g cap (ownN ν) ∧ Below wz.heap.size wz w') := fun wx hb => by
    refine (ownRow_any wx x).mono ?_
    rintro e w' ⟨g, cap, rfl, h1, h2, h3⟩
    rw [inN_own hw.tre] at h2
    exact ⟨g, cap, rfl, by have := hb.size; have := HA.out.2.2.2.1; omega, h2, hb.trans (h3.mono hb.size)⟩
  have HEa : Hid (∀ wx g cap, Below wz.heap.size wz wx → OwnI wx g cap (ownN ν) → P + 6 ≤ g → Calls Tryd.prog 30 #[.agg #[.int .i64 (n : Int), .int .i64 98, .int .i64 (gI n), .int .i64 (gD n), .int .i64 (gC n)], .agg #[.int .i64 0, .slice (some ⟨g, 0, none⟩) 12 cap], .func (.func 32) #[] #[], .int .i64 0, .func (.func 27) #[] #[.pointer (some ⟨P + 1 + 1 + 1, 0, none⟩), .pointer (some ⟨P + 1 + 1 + 1 + 1, 0, none⟩), .pointer (some ⟨P, 0, none⟩), .pointer (some ⟨P + 1, 0, none⟩), .pointer (some ⟨P + 1 + 1 + 1 + 1 + 1, 0, none⟩)]] wx fun e w' => e = .returned (.int .i64 0) ∧ AyE w wx P tt n (.slice none 0 0) (.slice none 0 0) (allB ν) (allT ν) w') := fun wx g cap hb ho hg => by
    have := eacha_own w wx n P tt 0 g 12 cap 20000 (fun j => by unfold oS; split <;> (try split) <;> omega) (by omega) ν (ownN ν) (fun i hi => nth_ownN _ _ hi) (ownN_length _) (alB ν) (alT ν) (.slice none 0 0) (.slice none 0 0) [] [] (HA.out.2.1.on hb) ho hg (fun e => by cases e) (fun j hj => by have := all_bd ν j hj; simpa using this) (al_own w0 w D T n h hT x ν hw P tt htt)
    rw [List.nil_append, List.nil_append] at this
    exact this
  rw [htt]
  clear hA h hT hw htt hwz
  unfold geoV inV
  have HXc : Hid (∀ wx, Below wz.heap.size wz wx → (wx.cell? ⟨P + 1, 0, none⟩ = some (.int .i64 (n : Int)) ∧ wx.cell? ⟨P + 1, 1, none⟩ = some (.int .i64 98) ∧ wx.cell? ⟨P + 1, 2, none⟩ = some (.int .i64 (gI n)) ∧ wx.cell? ⟨P + 1, 3, none⟩ = some (.int .i64 (gD n)) ∧ wx.cell? ⟨P + 1, 4, none⟩ = some (.int .i64 (gC n))) ∧ (wx.cell? ⟨P + 1 + 1, 0, none⟩ = some (.int .i64 (x 0)) ∧ wx.cell? ⟨P + 1 + 1, 1, none⟩ = some (.int .i64 (x 1)) ∧ wx.cell? ⟨P + 1 + 1, 2, none⟩ = some (.int .i64 (x 2)) ∧ wx.cell? ⟨P + 1 + 1, 3, none⟩ = some (.int .i64 (x 3)) ∧ wx.cell? ⟨P + 1 + 1, 4, none⟩ = some (.int .i64 (x 4)) ∧ wx.cell? ⟨P + 1 + 1, 5, none⟩ = some (.int .i64 (x 5)) ∧ wx.cell? ⟨P + 1 + 1, 6, none⟩ = some (.int .i64 (x 6)) ∧ wx.cell? ⟨P + 1 + 1, 7, none⟩ = some (.int .i64 (x 7)) ∧ wx.cell? ⟨P + 1 + 1, 8, none⟩ = some (.int .i64 (x 8)) ∧ wx.cell? ⟨P + 1 + 1, 9, none⟩ = some (.int .i64 (x 9)) ∧ wx.cell? ⟨P + 1 + 1, 10, none⟩ = some (.int .i64 (x 10)) ∧ wx.cell? ⟨P + 1 + 1, 11, none⟩ = some (.int .i64 (x 11)) ∧ wx.cell? ⟨P + 1 + 1, 12, none⟩ = some (.int .i64 (x 12)) ∧ wx.cell? ⟨P + 1 + 1, 13, none⟩ = some (.int .i64 (x 13)) ∧ wx.cell? ⟨P + 1 + 1, 14, none⟩ = some (.int .i64 (x 14))) ∧ wx.cell? ⟨P + 1 + 1 + 1 + 1 + 1, 0, none⟩ = some (.func (.func 27) #[] #[.pointer (some ⟨P + 1 + 1 + 1, 0, none⟩), .pointer (some ⟨P + 1 + 1 + 1 + 1, 0, none⟩), .pointer (some ⟨P, 0, none⟩), .pointer (some ⟨P + 1, 0, none⟩), .pointer (some ⟨P + 1 + 1 + 1 + 1 + 1, 0, none⟩)])) := fun wx hb => by
    have hx := (hb.block _ (heap_lt HA.out.2.2.1)).trans HA.out.2.2.1
    have hY := HA.out.2.1.on hb
    have hc := fun j => cell_of_row _ _ j _ _ _ hx
    exact ⟨hY.g.cells, ⟨hc 0, hc 1, hc 2, hc 3, hc 4, hc 5, hc 6, hc 7, hc 8, hc 9, hc 10, hc 11, hc 12, hc 13, hc 14⟩, by rw [cell_of_row _ _ _ _ _ _ hY.l]; rfl⟩
  go_enter Tryd.func9, Tryd.ntmps9
  go_upto_region 5 with (fail)
  rw [HWz.out]
  obtain ⟨⟨z0, z1, z2, z3, z4⟩, ⟨x0, x1, x2, x3, x4, x5, x6, x7, x8, x9, x10, x11, x12, x13, x14⟩, l0⟩ := HXc.out _ (Below.refl _ _)
  have HD : Hid (Below wz.heap.size wz wz.drew) := (Below.refl _ _).drew
  have HX6 : Hid (∀ wx w2 vb' vt', Below wz.heap.size wz wx → Ay w w2 P tt n vb' vt' (allB ν) (allT ν) → AyM wx w2 P (.slice none 0 0) (.slice none 0 0) vb' vt' → (w2.cell? ⟨P + 1, 0, none⟩ = some (.int .i64 (n : Int)) ∧ w2.cell? ⟨P + 1, 1, none⟩ = some (.int .i64 98) ∧ w2.cell? ⟨P + 1, 2, none⟩ = some (.int .i64 (gI n)) ∧ w2.cell? ⟨P + 1, 3, none⟩ = some (.int .i64 (gD n)) ∧ w2.cell? ⟨P + 1, 4, none⟩ = some (.int .i64 (gC n))) ∧ (w2.cell? ⟨P + 1 + 1, 0, none⟩ = some (.int .i64 (x 0)) ∧ w2.cell? ⟨P + 1 + 1, 1, none⟩ = some (.int .i64 (x 1)) ∧ w2.cell? ⟨P + 1 + 1, 2, none⟩ = some (.int .i64 (x 2)) ∧ w2.cell? ⟨P + 1 + 1, 3, none⟩ = some (.int .i64 (x 3)) ∧ w2.cell? ⟨P + 1 + 1, 4, none⟩ = some (.int .i64 (x 4)) ∧ w2.cell? ⟨P + 1 + 1, 5, none⟩ = some (.int .i64 (x 5)) ∧ w2.cell? ⟨P + 1 + 1, 6, none⟩ = some (.int .i64 (x 6)) ∧ w2.cell? ⟨P + 1 + 1, 7, none⟩ = some (.int .i64 (x 7)) ∧ w2.cell? ⟨P + 1 + 1, 8, none⟩ = some (.int .i64 (x 8)) ∧ w2.cell? ⟨P + 1 + 1, 9, none⟩ = some (.int .i64 (x 9)) ∧ w2.cell? ⟨P + 1 + 1, 10, none⟩ = some (.int .i64 (x 10)) ∧ w2.cell? ⟨P + 1 + 1, 11, none⟩ = some (.int .i64 (x 11)) ∧ w2.cell? ⟨P + 1 + 1, 12, none⟩ = some (.int .i64 (x 12)) ∧ w2.cell? ⟨P + 1 + 1, 13, none⟩ = some (.int .i64 (x 13)) ∧ w2.cell? ⟨P + 1 + 1, 14, none⟩ = some (.int .i64 (x 14))) ∧ w2.cell? ⟨P + 1 + 1 + 1 + 1 + 1, 0, none⟩ = some (.func (.func 27) #[] #[.pointer (some ⟨P + 1 + 1 + 1, 0, none⟩), .pointer (some ⟨P + 1 + 1 + 1 + 1, 0, none⟩), .pointer (some ⟨P, 0, none⟩), .pointer (some ⟨P + 1, 0, none⟩), .pointer (some ⟨P + 1 + 1 + 1 + 1 + 1, 0, none⟩)])) := fun wx w2 vb' vt' hb hY hM => by
    have hx := hM.fr.heap ((hb.block _ (heap_lt HA.out.2.2.1)).trans HA.out.2.2.1) (fun e => by rcases e with e | e | e | e; omega; omega; cases e; cases e)
    have hc := fun j => cell_of_row _ _ j _ _ _ hx
    exact ⟨hY.g.cells, ⟨hc 0, hc 1, hc 2, hc 3, hc 4, hc 5, hc 6, hc 7, hc 8, hc 9, hc 10, hc 11, hc 12, hc 13, hc 14⟩, by rw [cell_of_row _ _ _ _ _ _ hY.l]; rfl⟩
  go_region_held3 (fun wx => (wx.cell? ⟨P + 1, 0, none⟩ = some (.int .i64 (n : Int)) ∧ wx.cell? ⟨P + 1, 1, none⟩ = some (.int .i64 98) ∧ wx.cell? ⟨P + 1, 2, none⟩ = some (.int .i64 (gI n)) ∧ wx.cell? ⟨P + 1, 3, none⟩ = some (.int .i64 (gD n)) ∧ wx.cell? ⟨P + 1, 4, none⟩ = some (.int .i64 (gC n))) ∧ (wx.cell? ⟨P + 1 + 1, 0, none⟩ = some (.int .i64 (x 0)) ∧ wx.cell? ⟨P + 1 + 1, 1, none⟩ = some (.int .i64 (x 1)) ∧ wx.cell? ⟨P + 1 + 1, 2, none⟩ = some (.int .i64 (x 2)) ∧ wx.cell? ⟨P + 1 + 1, 3, none⟩ = some (.int .i64 (x 3)) ∧ wx.cell? ⟨P + 1 + 1, 4, none⟩ = some (.int .i64 (x 4)) ∧ wx.cell? ⟨P + 1 + 1, 5, none⟩ = some (.int .i64 (x 5)) ∧ wx.cell? ⟨P + 1 + 1, 6, none⟩ = some (.int .i64 (x 6)) ∧ wx.cell? ⟨P + 1 + 1, 7, none⟩ = some (.int .i64 (x 7)) ∧ wx.cell? ⟨P + 1 + 1, 8, none⟩ = some (.int .i64 (x 8)) ∧ wx.cell? ⟨P + 1 + 1, 9, none⟩ = some (.int .i64 (x 9)) ∧ wx.cell? ⟨P + 1 + 1, 10, none⟩ = some (.int .i64 (x 10)) ∧ wx.cell? ⟨P + 1 + 1, 11, none⟩ = some (.int .i64 (x 11)) ∧ wx.cell? ⟨P + 1 + 1, 12, none⟩ = some (.int .i64 (x 12)) ∧ wx.cell? ⟨P + 1 + 1, 13, none⟩ = some (.int .i64 (x 13)) ∧ wx.cell? ⟨P + 1 + 1, 14, none⟩ = some (.int .i64 (x 14))) ∧ wx.cell? ⟨P + 1 + 1 + 1 + 1 + 1, 0, none⟩ = some (.func (.func 27) #[] #[.pointer (some ⟨P + 1 + 1 + 1, 0, none⟩), .pointer (some ⟨P + 1 + 1 + 1 + 1, 0, none⟩), .pointer (some ⟨P, 0, none⟩), .pointer (some ⟨P + 1, 0, none⟩), .pointer (some ⟨P + 1 + 1 + 1 + 1 + 1, 0, none⟩)])) (go_keep)
    (first
      | (go_at_call 20; refine (HOr.out _ HD.out).mono ?_; rintro e w1 ⟨g, cap, rfl, h1, h2, h3⟩; have H1 : Hid (P + 6 ≤ g ∧ OwnI w1 g cap (ownN ν) ∧ Below wz.heap.size wz w1) := ⟨h1, h2, h3⟩; obtain ⟨⟨p0, p1, p2, p3, p4⟩, ⟨q0, q1, q2, q3, q4, q5, q6, q7, q8, q9, q10, q11, q12, q13, q14⟩, l1⟩ := HXc.out _ h3; clear h1 h2 h3 HOr)
      | (go_at_call 30; refine (HEa.out w1 g cap H1.out.2.2 H1.out.2.1 H1.out.1).mono ?_; rintro e w2 ⟨rfl, vb, vt, hcr, hcm⟩; have H2 : Hid (Ay w w2 P tt n vb vt (allB ν) (allT ν)) := hcr; obtain ⟨⟨r0, r1, r2, r3, r4⟩, ⟨s0, s1, s2, s3, s4, s5, s6, s7, s8, s9, s10, s11, s12, s13, s14⟩, l2⟩ := HX6.out w1 w2 vb vt H1.out.2.2 hcr hcm; clear hcr hcm HEa)
      | fail)
  all_goals (
    have b0 : w2.cell? ⟨P + 1 + 1 + 1, 0, none⟩ = some vb := by rw [cell_of_row _ _ _ _ _ _ H2.out.b]; rfl
    have c0 : w2.cell? ⟨P + 1 + 1 + 1 + 1, 0, none⟩ = some vt := by rw [cell_of_row _ _ _ _ _ _ H2.out.c]; rfl
    go_upto_region 8 with (fail)
    go_region
    all_goals go_wp2
    all_goals go_ret3
    have hd : Below w2.heap.size w2 w2.drew := (Below.refl _ _).drew
    have hY := H2.out.on hd
    have hP9 := HA.out.2.2.2.2
    exact ⟨vb, vt, rfl, hY.rb, hY.rt, fun k e => by have := hY.fb k e; omega, fun k e => by have := hY.ft k e; omega, hY.bel⟩)
end Go.Proofs.YtgmccpimpbnnpaaDoor

namespace Go.Proofs.YtgmccpimpbnnpaaDoor
open Go.RowKit Go.Maps Rec
structure ImB (l : List Int) (n : Nat) (f : Nat → Bool) : Prop where
  len : l.length = 512 * n
  bit : ∀ j, j < 4096 * nM n → bn l (401408 + j) = if f j then 1 else 0
theorem ImB.cong {l : List Int} {n : Nat} {f g : Nat → Bool} (h : ImB l n f) (e : ∀ j, j < 4096 * nM n → f j = g j) : ImB l n g := ⟨h.len, fun j hj => by rw [← e j hj]; exact h.bit j hj⟩
theorem ImB.put {l : List Int} {n : Nat} {f : Nat → Bool} {i : Nat} (h : ImB l n f) (hl : ∀ i, 0 ≤ nth l i ∧ nth l i < 256) (h0 : 128 ≤ n) (h1 : n ≤ 16384) (hi : i < 4096 * nM n) : ImB (bput l (401408 + i) true) n (upN f i true) := by
  have hN := nM_bd h0 h1
  have hlen := h.len
  refine ⟨by rw [bput_length, h.len], fun j hj => ?_⟩
  rw [bn_bput l _ _ true hl (by omega), h.bit j hj]
  by_cases e : j = i
  · subst e; rw [upN_same]; simp
  · rw [if_neg (by omega), upN_other _ _ e]
theorem imb_start (n : Nat) (_h0 : 128 ≤ n) (_h1 : n ≤ 16384) : ImB (zn (512 * n)) n (fun _ => false) := by
  refine ⟨zn_length _, fun j hj => ?_⟩
  rw [bn, nth_zn]
  simp
def fBase (n : Nat) (j : Nat) : Bool := decide (j < nD n) || decide (n ≤ j)
def stuV (M : Int) (ta : Option Addr) (tl tc : Nat) (ra : Option Addr) (rl rc : Nat) : Value := .agg #[.int .i64 M, .slice ta tl tc, .slice ra rl rc]
def StuAt (w : World) (p : Nat) (M : Int) (ta : Option Addr) (tl tc : Nat) (ra : Option Addr) (rl rc : Nat) : Prop := w.heap[p]? = some (.cells #[.int .i64 M, .slice ta tl tc, .slice ra rl rc] 25 (0, 0))
theorem StuAt.cells {w : World} {p : Nat} {M : Int} {ta : Option Addr} {tl tc : Nat} {ra : Option Addr} {rl rc : Nat} (h : StuAt w p M ta tl tc ra rl rc) : w.cell? ⟨p, 0, none⟩ = some (.int .i64 M) ∧ w.cell? ⟨p, 1, none⟩ = some (.slice ta tl tc) ∧ w.cell? ⟨p, 2, none⟩ = some (.slice ra rl rc) := by
  have hc := fun j => cell_of_row _ _ j _ _ _ h
  exact ⟨hc 0, hc 1, hc 2⟩
def nBq (M : Int) : Nat := 128 + (M % 18446744073709551616 % 4300).toNat
theorem nBq_bd (M : Int) : 128 ≤ nBq M ∧ nBq M ≤ 4427 := by unfold nBq; omega
set_option maxRecDepth 100000 in
theorem blocksQ (w : World) (M : Int) (ta : Option Addr) (tl tc : Nat) (ra : Option Addr) (rl rc : Nat) :
    Calls Tryd.prog 33 #[stuV M ta tl tc ra rl rc] w fun e w' => e = .returned (.int .i64 (nBq M : Nat)) ∧ Below w.heap.size w w' := by
  obtain ⟨U, hU⟩ : ∃ U, M % 18446744073709551616 = U := ⟨_, rfl⟩
  have e0 : IntKind.u64.wrap M = U := by rw [← hU]; simp [IntKind.wrap, IntKind.bits, IntKind.signed]
  have hU0 : 0 ≤ U := by omega
  obtain ⟨V, hV⟩ : ∃ V, U % 4300 = V := ⟨_, rfl⟩
  have hVb : 0 ≤ V ∧ V < 4300 := by omega
  have e1 : IntKind.u64.wrap V = V := by simp [IntKind.wrap, IntKind.bits, IntKind.signed]; omega
  have e2 : IntKind.i64.wrap V = V := by rw [IntKind.wrap_i64]; omega
  have e4 : U.tmod 4300 = V := by rw [Int.tmod_eq_emod_of_nonneg hU0]; exact hV
  obtain ⟨n, hn⟩ : ∃ n, nBq M = n := ⟨_, rfl⟩
  have e3 : (128 : Int) + V = (n : Int) := by rw [← hn, nBq, hU, hV]; omega
  have e5 : IntKind.i64.wrap (n : Int) = (n : Int) := by rw [IntKind.wrap_i64]; omega
  rw [hn]
  unfold stuV
  go_enter Tryd.func33, Tryd.ntmps33
  go_wp2
  go_ret
  exact ⟨rfl, below_new _⟩
end Go.Proofs.YtgmccpimpbnnpaaDoor

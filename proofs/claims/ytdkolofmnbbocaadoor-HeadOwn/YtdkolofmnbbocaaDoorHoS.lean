import Derived.Test.YtdkolofmnbbocaaDoorHoM
import Derived.Test.YtdkolofmnbbocaaDoorKMade
import Derived.Test.YtdkolofmnbbocaaDoorKKnownM
namespace Go.Proofs.YtdkolofmnbbocaaDoor
open Go.RowKit Rec

theorem eq_drew (w : World) (a b : Nat) : (w.drewN a).drewN b = w.drewN (a + b) := World.drewN_drewN _ _ _
set_option maxRecDepth 100000 in
set_option maxHeartbeats 400000 in
/-- 'same' of the same: it only draws -/
theorem same_q (w : World) (b1 c1 b2 c2 n : Nat) (l : List Int) (_hl : n ≤ 1000000000000000)
    (h1 : ∀ i, i < n → w.cell? ⟨b1, i, none⟩ = some (.int .i64 (nth l i))) (h2 : ∀ i, i < n → w.cell? ⟨b2, i, none⟩ = some (.int .i64 (nth l i))) :
    Calls Tryd.prog 9 #[.slice (some ⟨b1, 0, none⟩) n c1, .slice (some ⟨b2, 0, none⟩) n c2] w fun e w' => e = .returned (.bool true) ∧ ∃ m, w' = w.drewN m := by
  have H1 : Hid (∀ q i, i < n → (w.drewN q).cell? ⟨b1, i, none⟩ = some (.int .i64 (nth l i))) := fun q i hi => h1 i hi
  have H2 : Hid (∀ q i, i < n → (w.drewN q).cell? ⟨b2, i, none⟩ = some (.int .i64 (nth l i))) := fun q i hi => h2 i hi
  clear h1 h2
  go_enter Tryd.func9, Tryd.ntmps9
  go_wp2
  go_loopw [13] (fun i wr => ∃ k q : Nat, k ≤ n ∧ i = .int .i64 k ∧ wr = w.drewN q) (fun i _ => n - (intOf i).toNat)
  case atStart => exact ⟨0, 0, Nat.zero_le _, rfl, rfl⟩
  case round =>
    obtain ⟨k, q, hk, rfl, rfl⟩ := hrel
    by_cases hlt : k < n
    · have d1 := H1.out q k hlt
      have d2 := H2.out q k hlt
      obtain ⟨wq, hwq⟩ : ∃ wq, w.drewN q = wq := ⟨_, rfl⟩
      have HQ : Hid (w.drewN q = wq) := hwq
      rw [hwq] at d1 d2 ⊢
      clear hwq
      go_wp2
      go_quiet (fail)
      go_wp2
      refine ⟨⟨k + 1, ?_⟩, by simp [intOf]; omega⟩
      rw [← HQ.out]
      exact ⟨_, by omega, by go_num, eq_drew _ _ _⟩
    · go_wp2
      go_ret
      exact ⟨rfl, q, rfl⟩
/-- what HeadOwn has in hand once all is asked: its rows, its texts, and that what came behind them is untouched -/
structure HoAt (w w20 : World) (N : Nat) (b cap bl capl bw capw : Nat) (g gl cl : Nat → Nat) (ts : List Value) (wq : World) (C L : Nat → List Int) : Prop where
  bel : Below w.heap.size w wq
  heads : RowsAt w wq (.slice (some ⟨b, 0, none⟩) 6 cap) 6 g k512 C
  lists : RowsI w wq (.slice (some ⟨bl, 0, none⟩) 3 capl) 3 gl cl L
  strs : wq.ownsRow 0 9 1 (.slice (some ⟨bw, 0, none⟩) 6 capw) 6 ts
  far : Fr (fun k => k < N) w20 wq
  wN : w.heap.size ≤ N
  Nw : N ≤ w20.heap.size
  lb : b < N
  ll : bl < N
  lw : bw < N
  lg : ∀ i, i < 6 → g i < N
  li : ∀ i, i < 3 → gl i < N
variable {w w20 : World} {N b cap bl capl bw capw : Nat} {g gl cl : Nat → Nat} {ts : List Value} {wq wz : World} {C L : Nat → List Int}
theorem HoAt.fr (h : HoAt w w20 N b cap bl capl bw capw g gl cl ts wq C L) {S : Nat → Prop} (x : Fr S wq wz) (hS : ∀ k, S k → w20.heap.size ≤ k) : HoAt w w20 N b cap bl capl bw capw g gl cl ts wz C L := by
  have hN := h.Nw
  have no : ∀ k, k < N → ¬ S k := fun k hk hs => by have := hS k hs; omega
  refine ⟨h.bel.trans (x.below w.heap.size (fun k hk => by have := hS k hk; have := h.wN; omega) h.bel.size), h.heads.fr x (fun k hk => no k ?_) (fun i hi => no _ (h.lg i hi)), h.lists.fr x (fun k hk => no k ?_) (fun i hi => no _ (h.li i hi)), owns_fr h.strs x (fun k hk => no k ?_), h.far.trans x (fun k hk => .inr (hS k hk)), h.wN, h.Nw, h.lb, h.ll, h.lw, h.lg, h.li⟩
  · have e : b = k := Option.some.inj hk
    rw [← e]; exact h.lb
  · have e : bl = k := Option.some.inj hk
    rw [← e]; exact h.ll
  · have e : bw = k := Option.some.inj hk
    rw [← e]; exact h.lw
theorem HoAt.on (h : HoAt w w20 N b cap bl capl bw capw g gl cl ts wq C L) (hb : Below wq.heap.size wq wz) : HoAt w w20 N b cap bl capl bw capw g gl cl ts wz C L :=
  h.fr (below_fr hb (fun _ => False)) (fun _ e => e.elim)
theorem HoAt.setH (h : HoAt w w20 N b cap bl capl bw capw g gl cl ts wq C L) (i : Nat) (hi : i < 6) (k : Nat) (v : Int) (hk : k < (C i).length) (hv : 0 ≤ v ∧ v < 256) : HoAt w w20 N b cap bl capl bw capw g gl cl ts (wq.setCell ⟨g i, k, none⟩ (.int .u8 v)) (up C i ((C i).set k v)) L := by
  have x : Fr (fun q => q = g i) wq (wq.setCell ⟨g i, k, none⟩ (.int .u8 v)) := Fr.set
  have ho := (h.heads.els i hi).1
  obtain ⟨cur, hcur, _⟩ := ho.row
  exact ⟨h.bel.trans (x.below w.heap.size (fun q hq => hq ▸ (h.heads.els i hi).2) h.bel.size), h.heads.set i hi k v hk hv,
    h.lists.fr x (fun q hq e => own_apart7 h.lists.own ho (by decide) (e ▸ hq)) (fun j hj e => by
      obtain ⟨cur', hcur', _⟩ := (h.lists.els j hj).1.row
      rw [e, hcur] at hcur'
      injection hcur' with h1
      injection h1 with _ h2 _
      exact absurd h2 (by decide)),
    owns_fr h.strs x (fun q hq e => own_apart7 h.strs ho (by decide) (e ▸ hq)), h.far.trans x (fun q hq => .inl (hq ▸ h.lg i hi)), h.wN, h.Nw, h.lb, h.ll, h.lw, h.lg, h.li⟩
theorem HoAt.setL (h : HoAt w w20 N b cap bl capl bw capw g gl cl ts wq C L) (i : Nat) (hi : i < 3) (k : Nat) (v : Int) (hk : k < (L i).length) : HoAt w w20 N b cap bl capl bw capw g gl cl ts (wq.setCell ⟨gl i, k, none⟩ (.int .i64 v)) C (up L i ((L i).set k v)) := by
  have x : Fr (fun q => q = gl i) wq (wq.setCell ⟨gl i, k, none⟩ (.int .i64 v)) := Fr.set
  have ho := (h.lists.els i hi).1
  obtain ⟨cur, hcur, _⟩ := ho.row
  exact ⟨h.bel.trans (x.below w.heap.size (fun q hq => hq ▸ (h.lists.els i hi).2) h.bel.size),
    h.heads.fr x (fun q hq e => own_apartI h.heads.own ho (by decide) (e ▸ hq)) (fun j hj e => by
      obtain ⟨cur', hcur', _⟩ := (h.heads.els j hj).1.row
      rw [e, hcur] at hcur'
      injection hcur' with h1
      injection h1 with _ h2 _
      exact absurd h2 (by decide)),
    h.lists.set i hi k v hk,
    owns_fr h.strs x (fun q hq e => own_apartI h.strs ho (by decide) (e ▸ hq)), h.far.trans x (fun q hq => .inl (hq ▸ h.li i hi)), h.wN, h.Nw, h.lb, h.ll, h.lw, h.lg, h.li⟩
theorem HoAt.cong (h : HoAt w w20 N b cap bl capl bw capw g gl cl ts wq C L) {D M : Nat → List Int} (h1 : ∀ i, i < 6 → C i = D i) (h2 : ∀ i, i < 3 → L i = M i) : HoAt w w20 N b cap bl capl bw capw g gl cl ts wq D M :=
  ⟨h.bel, h.heads.cong h1, h.lists.cong h2, h.strs, h.far, h.wN, h.Nw, h.lb, h.ll, h.lw, h.lg, h.li⟩
end Go.Proofs.YtdkolofmnbbocaaDoor

import Derived.Test.YtdheojhfgeabhaaDoorKInK
import Derived.Test.YtdheojhfgeabhaaDoorKOp11
namespace Go.Proofs.YtdheojhfgeabhaaDoor
open Go.RowKit Rec

/-- a function with another value at one place -/
def up {α : Type} (f : Nat → α) (n : Nat) (v : α) : Nat → α := fun i => if i = n then v else f i
theorem up_at {α : Type} (f : Nat → α) (n : Nat) (v : α) : up f n v n = v := if_pos rfl
theorem up_off {α : Type} (f : Nat → α) {n i : Nat} (v : α) (h : i ≠ n) : up f n v i = f i := if_neg h
def k512 (_ : Nat) : Nat := 512
/-- the slices of a row of rows -/
def hdrs (n : Nat) (g c : Nat → Nat) (C : Nat → List Int) : List Value := (List.range n).map fun i => .slice (some ⟨g i, 0, none⟩) (C i).length (c i)
theorem hdrs_len (n : Nat) (g c : Nat → Nat) (C : Nat → List Int) : (hdrs n g c C).length = n := by simp [hdrs]
theorem hdrs_at (n : Nat) (g c : Nat → Nat) (C : Nat → List Int) (i : Nat) (h : i < n) : (hdrs n g c C)[i]? = some (.slice (some ⟨g i, 0, none⟩) (C i).length (c i)) := by
  simp [hdrs, h]
theorem hdrs_up (n : Nat) (g c : Nat → Nat) (C : Nat → List Int) (gn cn : Nat) (ln : List Int) : hdrs n g c C ++ [.slice (some ⟨gn, 0, none⟩) ln.length cn] = hdrs (n + 1) (up g n gn) (up c n cn) (up C n ln) := by
  unfold hdrs
  rw [List.range_succ, List.map_append]
  congr 1
  · refine List.map_congr_left fun i hi => ?_
    have hne : i ≠ n := by have := List.mem_range.1 hi; omega
    rw [up_off g gn hne, up_off c cn hne, up_off C ln hne]
  · simp [up_at]
theorem hdrs_set (n : Nat) (g c : Nat → Nat) (C : Nat → List Int) (k : Nat) (l : List Int) (h : l.length = (C k).length) : hdrs n g c (up C k l) = hdrs n g c C := by
  unfold hdrs
  refine List.map_congr_left fun i _ => ?_
  by_cases e : i = k
  · subst e; rw [up_at, h]
  · rw [up_off C l e]
/-- a row of rows of bytes, all one's own -/
structure RowsAt (w0 wr : World) (s : Value) (n : Nat) (g c : Nat → Nat) (C : Nat → List Int) : Prop where
  own : wr.ownsRow 0 25 1 s n (hdrs n g c C)
  top : ∀ k, s.ownBlock = some k → w0.heap.size ≤ k
  els : ∀ i, i < n → OwnB wr (g i) (c i) (C i) ∧ w0.heap.size ≤ g i
  apart : ∀ i j, i < n → j < n → g i = g j → i = j
theorem rows_none (w0 wr : World) (g c : Nat → Nat) (C : Nat → List Int) : RowsAt w0 wr (.slice none 0 0) 0 g c C :=
  ⟨World.ownsRow_nil _ _ _ _, (fun k h => by cases h), (fun i h => by omega), (fun i j h => by omega)⟩
theorem ownB_fr {S : Nat → Prop} {w w' : World} {g cap : Nat} {l : List Int} (h : OwnB w g cap l) (x : Fr S w w') (hg : ¬ S g) : OwnB w' g cap l := by
  obtain ⟨cur, h1, h2⟩ := h.row
  exact ⟨⟨cur, x.heap h1 hg, h2⟩, h.len, h.room, h.top, h.wf⟩
theorem own_apart7 {w : World} {B e size n g cap : Nat} {v : Value} {xs : List Value} {l : List Int} (h : w.ownsRow B e size v n xs) (h' : OwnB w g cap l) (hne : e ≠ 5) : ¬ v.ownBlock = some g := by
  intro hk
  rcases h.2 with ⟨hv, _⟩ | ⟨g', cap', cur, hv, _, hg, _⟩
  · rw [hv] at hk; cases hk
  · rw [hv] at hk
    have e1 : g' = g := Option.some.inj hk
    subst e1
    obtain ⟨cur', h1, _⟩ := h'.row
    rw [hg] at h1
    injection h1 with h1
    injection h1 with _ h2 _
    exact hne h2
theorem RowsAt.fr {w0 wr wq : World} {s : Value} {n : Nat} {g c : Nat → Nat} {C : Nat → List Int} {S : Nat → Prop} (h : RowsAt w0 wr s n g c C) (x : Fr S wr wq) (h1 : ∀ k, s.ownBlock = some k → ¬ S k) (h2 : ∀ i, i < n → ¬ S (g i)) : RowsAt w0 wq s n g c C :=
  ⟨owns_fr h.own x h1, h.top, fun i hi => ⟨ownB_fr (h.els i hi).1 x (h2 i hi), (h.els i hi).2⟩, h.apart⟩
theorem RowsAt.on {w0 wr wq : World} {s : Value} {n : Nat} {g c : Nat → Nat} {C : Nat → List Int} (h : RowsAt w0 wr s n g c C) (hb : Below wr.heap.size wr wq) : RowsAt w0 wq s n g c C :=
  h.fr (below_fr hb (fun _ => False)) (fun _ _ e => e) (fun _ _ e => e)
/-- one byte of one row is written -/
theorem RowsAt.set {w0 wr : World} {s : Value} {n : Nat} {g c : Nat → Nat} {C : Nat → List Int} (h : RowsAt w0 wr s n g c C) (i : Nat) (hi : i < n) (k : Nat) (v : Int) (hk : k < (C i).length) (hv : 0 ≤ v ∧ v < 256) :
    RowsAt w0 (wr.setCell ⟨g i, k, none⟩ (.int .u8 v)) s n g c (up C i ((C i).set k v)) := by
  refine ⟨?_, h.top, fun j hj => ?_, h.apart⟩
  · rw [hdrs_set _ _ _ _ _ _ (by rw [List.length_set])]
    exact owns_fr h.own Fr.set fun q hq e => own_apart7 h.own (h.els i hi).1 (by decide) (e ▸ hq)
  · by_cases e : j = i
    · subst e
      rw [up_at]
      exact ⟨(h.els j hj).1.set k v hk hv, (h.els j hj).2⟩
    · rw [up_off C _ e]
      exact ⟨ownB_fr (h.els j hj).1 Fr.set (fun e' => e (h.apart j i hj hi e')), (h.els j hj).2⟩
theorem RowsAt.is {w0 wr : World} {b n cap : Nat} {g c : Nat → Nat} {C : Nat → List Int} (h : RowsAt w0 wr (.slice (some ⟨b, 0, none⟩) n cap) n g c C) (i : Nat) (hi : i < n) : wr.cell? ⟨b, i, none⟩ = some (.slice (some ⟨g i, 0, none⟩) (C i).length (c i)) := by
  rcases h.own.2 with ⟨hv, _⟩ | ⟨g', cap', cur, hv, _, hg, _, _, _, h5⟩
  · cases hv
  · cases hv
    rw [cell_of_row _ _ _ _ _ _ hg]
    have := hdrs_at n g c C i hi
    rw [Nat.mul_one] at h5
    rw [← h5, List.getElem?_take, if_pos hi] at this
    simpa using this
theorem info28 : (Tryd.prog.info? 25).map (fun i => (i.zero, i.size, i.bytes)) = some (some (.slice none 0 0), 1, 24) := by kernel_rfl
theorem info9 : (Tryd.prog.info? 9).map (fun i => (i.zero, i.size, i.bytes)) = some (some (.string ⟨#[]⟩), 1, 16) := by kernel_rfl
/-- append of one row to a row of rows -/
theorem wp_rows7 {ops : Array Oper} {rest : List Oper} {o : Oper} {a : Act} {Q : Exit → Act → World → Prop} {wx : World} (hgd : o.guard = none) (s x : Operand)
    (ho : o.op = .call { callee := .builtin .append, args := #[s, x], argTypes := #[31, 31] }) (w0 : World) (v : Value) (n : Nat) (g c : Nat → Nat) (C : Nat → List Int) (hs : a.eval s = v) (hx : a.eval x = .slice (some ⟨wx.heap.size, 0, none⟩) 1 1)
    (gn cn m : Nat) (ln : List Int) (hm : ln.length = m) (hR : RowsAt w0 wx v n g c C) (hO : OwnB wx gn cn ln) (hg : w0.heap.size ≤ gn) (hne : ∀ i, i < n → g i ≠ gn) (hB : w0.heap.size ≤ wx.heap.size) (hn : n ≤ 1000)
    (h : ∀ b cap w', RowsAt w0 w' (.slice (some ⟨b, 0, none⟩) (n + 1) cap) (n + 1) (up g n gn) (up c n cn) (up C n ln) → Fr (fun k => v.ownBlock = some k) wx w' → (v.ownBlock = some b ∨ wx.heap.size ≤ b) → wpList Tryd.prog ops Q rest (a.put o.dst (.slice (some ⟨b, 0, none⟩) (n + 1) cap)) w') :
    wpList Tryd.prog ops Q (o :: rest) a (wx.alloc (.cells #[.slice (some ⟨gn, 0, none⟩) m cn] 25)) := by
  subst hm
  obtain ⟨i0, hi, hz0, hz1, hz2⟩ := info_parts info28
  have hal : Below wx.heap.size wx (wx.alloc (.cells #[.slice (some ⟨gn, 0, none⟩) ln.length cn] 25)) := (Below.refl _ _).alloc (Nat.le_refl _) _
  have hR' := hR.on hal
  refine wp_own hgd s x 31 ho 25 i0 _ 1 24 Tryd.underlying31 hi hz0 hz1 hz2 rfl (by decide) v n _ hs hR'.own ⟨wx.heap.size, 0, none⟩ 1 1 [.slice (some ⟨gn, 0, none⟩) ln.length cn] hx (by decide) rfl (fun j u hj => ?_) (fun u hu => ?_) (by unfold maxLen; omega) (by omega) ?_
  · cases j with
    | zero => cases hj; rw [Addr.add_lit]; rw [cell_of_row _ _ _ _ _ _ (heap_alloc_new _ _)]; rfl
    | succ j => simp at hj
  · rw [List.mem_singleton.1 hu]; rfl
  · intro b cap w' h1 h2 h3
    have hfr : Fr (fun k => v.ownBlock = some k) wx w' := (below_fr hal (fun k => v.ownBlock = some k)).trans h2 (fun k hk => .inl hk)
    have hOx := hO.on hal
    refine h b cap w' ⟨?_, fun k hk => ?_, fun i hi => ?_, fun i j hi hj => ?_⟩ hfr ?_
    · rw [← hdrs_up]; exact h1
    · have : b = k := Option.some.inj hk
      subst this
      rcases h3 with h3 | h3
      · exact hR.top _ h3
      · exact Nat.le_trans hB (Nat.le_trans hal.size h3)
    · by_cases e : i = n
      · subst e
        rw [up_at, up_at, up_at]
        exact ⟨ownB_fr hOx h2 (own_apart7 hR'.own hOx (by decide)), hg⟩
      · rw [up_off g _ e, up_off c _ e, up_off C _ e]
        have := hR'.els i (by omega)
        exact ⟨ownB_fr this.1 h2 (own_apart7 hR'.own this.1 (by decide)), this.2⟩
    · by_cases e : i = n
      · by_cases e' : j = n
        · omega
        · subst e
          rw [up_at, up_off g _ e']
          intro z; exact absurd z.symm (hne j (by omega))
      · by_cases e' : j = n
        · subst e'
          rw [up_at, up_off g _ e]
          intro z; exact absurd z (hne i (by omega))
        · rw [up_off g _ e, up_off g _ e']
          exact hR.apart i j (by omega) (by omega)
    · rcases h3 with h3 | h3
      · exact .inl h3
      · exact .inr (Nat.le_trans hal.size h3)
/-- append of one byte to a row that is full: the row stays as it is -/
theorem wp_full7 {ops : Array Oper} {rest : List Oper} {o : Oper} {act : Act} {Q : Exit → Act → World → Prop} {w1 : World} (hgd : o.guard = none) (s x : Operand)
    (ho : o.op = .call { callee := .builtin .append, args := #[s, x], argTypes := #[25, 25] }) (g n : Nat) (l : List Int) (v : Int) (hv : 0 ≤ v ∧ v < 256) (hl : l.length = n) (hs : act.eval s = .slice (some ⟨g, 0, none⟩) n n) (hx : act.eval x = .slice (some ⟨w1.heap.size, 0, none⟩) 1 1)
    (hO : OwnB w1 g n l) (hn : n ≤ 100000)
    (h : ∀ g' cap' w', w1.heap.size ≤ g' → OwnB w' g' cap' (l ++ [v]) → Below w1.heap.size w1 w' → wpList Tryd.prog ops Q rest (act.put o.dst (.slice (some ⟨g', 0, none⟩) (n + 1) cap')) w') :
    wpList Tryd.prog ops Q (o :: rest) act (w1.alloc (.cells #[.int .u8 v] 5)) := by
  have hA : Below w1.heap.size w1 (w1.alloc (.cells #[.int .u8 v] 5)) := (Below.refl _ _).alloc (Nat.le_refl _) _
  have hOb : OwnB (w1.alloc (.cells #[.int .u8 v] 5)) w1.heap.size 1 [v] := bytes7 w1 [v] (by simp) (wf_one7 v hv)
  have hOx := hO.on hA
  obtain ⟨i0, hi, hz0, hz1, hz2⟩ := info_parts info5
  have hr := run_append_grow (P := Tryd.prog) (w1.alloc (.cells #[.int .u8 v] 5)) 25 o.type 5 i0 (.int .u8 0) Tryd.underlying25 hi hz0 ⟨g, 0, none⟩ n n (l.map (Value.int .u8)) (by rw [hz1, List.length_map, hl, Nat.mul_one]) hOx.bytes.news ⟨w1.heap.size, 0, none⟩ 1 1 ([v].map (Value.int .u8)) (by rw [hz1]; rfl) (hOb.bytes.news) (by omega) (by omega) (by rw [hz2]; exact growslice_fits (bytes := 1) (by omega) (by omega))
  refine wpList_plain hgd fun K hK => ?_
  unfold Oper.wp execOp
  simp only [ho, resolve, invoke, builtin, Sem.run_bind, Sem.run_pure, Result.andThen_ok, List.map_toArray, List.map_cons, List.map_nil, hs, hx] at hr ⊢
  rw [hr]
  refine hK _ _ (h _ _ _ hA.size ?_ (hA.trans (((Below.refl _ _).drew.alloc (Nat.le_refl _) _).mono hA.size)))
  have h1 := grownCap_ge (w1.alloc (.cells #[.int .u8 v] 5)) (n + 1) n 5
  have h2 := grownCap_le_maxLen (w1.alloc (.cells #[.int .u8 v] 5)) (n + 1) n 5 (by unfold maxLen; omega)
  generalize grownCap (w1.alloc (.cells #[.int .u8 v] 5)) (n + 1) n 5 = C at h1 h2 ⊢
  refine ⟨⟨_, heap_alloc_new _ _, ?_, ?_⟩, by simp [hl]; omega, by simp [hl]; omega, h2, wf_two hO.wf (wf_one7 v hv)⟩
  · rw [Array.size_append, Array.size_append, size_zeroCells]
    show (l.map (Value.int .u8)).toArray.size + 1 + (C - (n + 1)) * 1 = C
    rw [List.size_toArray, List.length_map, hl]; omega
  · rw [Array.toList_append, Array.toList_append, List.take_append_of_le_length (by simp [hl])]
    simp [hl, List.take_of_length_le]
theorem own_apartX {w : World} {B e size n p : Nat} {v : Value} {xs : List Value} {cs : Array Value} {t : Nat} {f : Nat × Nat} (h : w.ownsRow B e size v n xs) (h' : w.heap[p]? = some (.cells cs t f)) (hne : e ≠ t) : ¬ v.ownBlock = some p := by
  intro hk
  rcases h.2 with ⟨hv, _⟩ | ⟨g', cap', cur, hv, _, hg, _⟩
  · rw [hv] at hk; cases hk
  · rw [hv] at hk
    have e1 : g' = p := Option.some.inj hk
    subst e1
    rw [hg] at h'
    injection h' with h1
    injection h1 with _ h2 _
    exact hne h2
theorem own_apartO {w : World} {B B' e e' size size' n n' : Nat} {v v' : Value} {xs xs' : List Value} (h : w.ownsRow B e size v n xs) (h' : w.ownsRow B' e' size' v' n' xs') (hne : e ≠ e') (k : Nat) (hk : v.ownBlock = some k) : ¬ v'.ownBlock = some k := by
  rcases h.2 with ⟨hv, _⟩ | ⟨g', cap', cur, hv, _, hg, _⟩
  · rw [hv] at hk; cases hk
  · rw [hv] at hk
    have e1 : g' = k := Option.some.inj hk
    subst e1
    exact own_apartX h' hg (fun e => hne e.symm)
theorem owns_form {w : World} {e n : Nat} {s : Value} {xs : List Value} (h : w.ownsRow 0 e 1 s n xs) (hn : 0 < n) : ∃ b cap, s = .slice (some ⟨b, 0, none⟩) n cap ∧ (∀ i u, xs[i]? = some u → w.cell? ⟨b, i, none⟩ = some u) ∧ n ≤ cap := by
  rcases h.2 with ⟨_, h0⟩ | ⟨g', cap', cur, hv, _, hg, hle, _, _, h5⟩
  · omega
  · refine ⟨g', cap', hv, fun i u hu => ?_, hle⟩
    rw [cell_of_row _ _ _ _ _ _ hg]
    rw [Nat.mul_one] at h5
    rw [← h5, List.getElem?_take] at hu
    split at hu
    · simpa using hu
    · cases hu
theorem str_size (l : List Int) (hw : ∀ i, 0 ≤ nth l i ∧ nth l i < 256) : (strOfNums l).size = l.length := by
  rw [← sb_length, sb_str hw]
theorem up_self {α : Type} (f : Nat → α) (n : Nat) : up f n (f n) = f := funext fun i => by
  by_cases e : i = n
  · subst e; exact up_at _ _ _
  · exact up_off _ _ e
theorem up512 (n : Nat) : up k512 n 512 = k512 := up_self k512 n
theorem up_up {α : Type} (f : Nat → α) (n : Nat) (a b : α) : up (up f n a) n b = up f n b := funext fun i => by
  by_cases e : i = n
  · subst e; rw [up_at, up_at]
  · rw [up_off _ _ e, up_off _ _ e, up_off _ _ e]
theorem RowsAt.cong {w0 wr : World} {s : Value} {n : Nat} {g c : Nat → Nat} {C D : Nat → List Int} (h : RowsAt w0 wr s n g c C) (e : ∀ i, i < n → C i = D i) : RowsAt w0 wr s n g c D := by
  refine ⟨?_, h.top, fun i hi => by rw [← e i hi]; exact h.els i hi, h.apart⟩
  have : hdrs n g c D = hdrs n g c C := List.map_congr_left fun i hi => by rw [e i (List.mem_range.1 hi)]
  rw [this]; exact h.own
theorem strs_up (n : Nat) (T : Nat → ByteArray) : ((List.range n).map fun i => Value.string (T i)) ++ [.string (T n)] = (List.range (n + 1)).map fun i => Value.string (T i) := by
  rw [List.range_succ, List.map_append]; rfl
theorem ov_all (L : List Int) (v : Int) (n : Nat) (h : L.length = n) : ov L 0 n (fun _ => v) = List.replicate n v := by
  refine ext_nth (by rw [ov_length, List.length_replicate, h]) fun i hi => ?_
  have hi' : i < n := by rw [ov_length] at hi; omega
  rw [nth_ov _ _ _ _ _ (by omega), if_pos (by omega), nth_rep _ _ _ hi']
end Go.Proofs.YtdheojhfgeabhaaDoor

namespace Go.Proofs.YtdheojhfgeabhaaDoor
open Go.RowKit Rec
open Crc (W)

theorem shr1 (x : W) : U x / (2 : Int) = U (x >>> (1 : Nat)) := by
  unfold U
  rw [BitVec.toNat_ushiftRight, Nat.shiftRight_eq_div_pow]; omega
theorem lsb (x : W) : x.getLsbD 0 = decide (x.toNat % 2 = 1) := by
  simp [BitVec.getLsbD]
theorem pl_odd (x : W) (h : (U x % 2 == 1) = true) : bits .xor .u32 (U x / 2) 3988292384 = U (Crc.pl x) := by
  have hb : x.getLsbD 0 = true := by rw [lsb]; unfold U at h; simp at h; simp; omega
  have e : (3988292384 : Int) = U 3988292384#32 := by decide
  rw [shr1, e, bits_xor]; unfold Crc.pl; rw [if_pos hb]
theorem pl_evn (x : W) (h : (U x % 2 == 1) = false) : U x / 2 = U (Crc.pl x) := by
  have hb : ¬ x.getLsbD 0 = true := by rw [lsb]; unfold U at h; simp at h; simp; omega
  rw [shr1]; unfold Crc.pl; rw [if_neg hb]
theorem pw_succ (k : Nat) (x : W) : Crc.pw Crc.pl (k + 1) x = Crc.pl (Crc.pw Crc.pl k x) := by rw [Crc.pw_add]; rfl
theorem xor_ones (x : W) : bits .xor .u32 (U x) 4294967295 = U (x ^^^ Crc.ones) := by
  rw [← bits_xor]; rfl

end Go.Proofs.YtdheojhfgeabhaaDoor

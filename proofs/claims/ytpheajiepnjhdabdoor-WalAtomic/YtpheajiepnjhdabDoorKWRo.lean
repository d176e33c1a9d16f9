import Derived.Test.YtpheajiepnjhdabDoorWFx
namespace Go.Proofs.YtpheajiepnjhdabDoor
open Go.RowKit Rec

theorem flatK (f : Bk → List Value) (l : List Bk) (k : Nat) (hk : k < l.length) (j : Nat) (hj : j < 2) (hf : ∀ p, (f p).length = 2 := by intro p; rfl) : (l.flatMap f)[k * 2 + j]? = (f l[k])[j]? := by
  induction l generalizing k with
  | nil => simp at hk
  | cons p l ih =>
    rw [List.flatMap_cons]
    cases k with
    | zero => rw [List.getElem?_append_left (by rw [hf]; omega)]; simp
    | succ k =>
      rw [List.getElem?_append_right (by rw [hf]; omega), hf, show (k + 1) * 2 + j - 2 = k * 2 + j by omega, ih k (by simpa using hk)]; rfl
/-- puts that are handed in -/
structure PtsAt (w : World) (a : Option Addr) (P : List (Int × Int)) : Prop where
  len : P.length ≤ 1000000000000000
  at_ : P = [] ∨ ∃ b off, a = some ⟨b, off, none⟩ ∧ ∀ i q, P[i]? = some q → w.cell? ⟨b, off + i * 2, none⟩ = some (.int .i64 q.1) ∧ w.cell? ⟨b, off + i * 2 + 1, none⟩ = some (.int .u8 q.2) ∧ 0 ≤ q.2 ∧ q.2 < 256
theorem PtsAt.on {w w' : World} {a : Option Addr} {P : List (Int × Int)} (h : PtsAt w a P) (hb : Below w.heap.size w w') : PtsAt w' a P := by
  refine ⟨h.len, ?_⟩
  rcases h.at_ with e | ⟨b, off, e, hc⟩
  · exact .inl e
  · refine .inr ⟨b, off, e, fun i q hq => ?_⟩
    obtain ⟨h1, h2, h3⟩ := hc i q hq
    exact ⟨(hb.cell (block_lt_of_cell h1)).trans h1, (hb.cell (block_lt_of_cell h2)).trans h2, h3⟩
def Bk.cells (q : Bk) : List Value := [.int .i64 q.n, q.v]
/-- blocks such as may be committed, in rows of one's own -/
structure RowsAt (w0 w : World) (k : Nat) (v : Value) (L : List Bk) : Prop where
  row : w.ownsRow 0 55 2 v L.length (L.flatMap Bk.cells)
  blk : ∀ q ∈ L, BlkAt w q.g q.x ∧ w0.heap.size ≤ q.g
  num : ∀ q ∈ L, 98 ≤ q.n ∧ q.n < 98 + (k : Int)
  ris : L.Pairwise fun p q => p.n < q.n
  len : L.length ≤ k
  far : ∀ b, v.ownBlock = some b → w0.heap.size ≤ b
  bel : Below w0.heap.size w0 w
theorem RowsAt.on {w0 w w' : World} {k : Nat} {v : Value} {L : List Bk} (h : RowsAt w0 w k v L) (hb : Below w.heap.size w w') : RowsAt w0 w' k v L :=
  ⟨owns_on h.row hb, fun q hq => ⟨(h.blk q hq).1.on hb, (h.blk q hq).2⟩, h.num, h.ris, h.len, h.far, h.bel.trans (hb.mono h.bel.size)⟩
theorem RowsAt.up {w0 w : World} {k : Nat} {v : Value} {L : List Bk} (h : RowsAt w0 w k v L) : RowsAt w0 w (k + 1) v L :=
  ⟨h.row, h.blk, fun q hq => by have := h.num q hq; omega, h.ris, by have := h.len; omega, h.far, h.bel⟩
theorem RowsAt.start {w0 : World} : RowsAt w0 w0 0 (.slice none 0 0) [] :=
  ⟨⟨rfl, .inl ⟨rfl, rfl⟩⟩, (fun q h => by cases h), (fun q h => by cases h), List.Pairwise.nil, Nat.le_refl _, (fun b h => by cases h), Below.refl _ _⟩
theorem infoK : (Tryd.prog.info? 55).map (fun i => (i.zero, i.size, i.bytes)) = some (some (.agg #[.int .i64 0, .slice none 0 0]), 2, 32) := by kernel_rfl
theorem RowsAt.next {w0 wr w1 w' : World} {k g c g2 c2 : Nat} {v : Value} {L : List Bk} {x : List Int} (h : RowsAt w0 wr k v L) (hb : Below wr.heap.size wr w1) (hg : wr.heap.size ≤ g) (ho : BlkAt w1 g x)
    (h1 : w'.ownsRow 0 55 2 (.slice (some ⟨g2, 0, none⟩) (L.length + 1) c2) (L.length + 1) (L.flatMap Bk.cells ++ [.int .i64 (98 + (k : Int)), .slice (some ⟨g, 0, none⟩) 512 c])) (h2 : Fr (fun b => v.ownBlock = some b) w1 w') (h3 : v.ownBlock = some g2 ∨ w1.heap.size ≤ g2) :
    RowsAt w0 w' (k + 1) (.slice (some ⟨g2, 0, none⟩) (L.length + 1) c2) (L ++ [⟨98 + (k : Int), g, c, x⟩]) := by
  have hA := h.on hb
  have hs : w0.heap.size ≤ wr.heap.size := h.bel.size
  have hs1 : wr.heap.size ≤ w1.heap.size := hb.size
  have hne : ∀ {g : Nat} {x : List Int}, BlkAt w1 g x → ¬ v.ownBlock = some g := fun hx => by
    obtain ⟨cap, y, hy⟩ := hx.own
    exact own_apartB hA.row hy (by decide)
  refine ⟨?_, fun q hq => ?_, fun q hq => ?_, ?_, by rw [List.length_append]; have := h.len; simp; omega, fun b hk => ?_, hA.bel.trans (h2.below _ h.far hA.bel.size)⟩
  · rw [List.flatMap_append, List.length_append]; exact h1
  · rcases List.mem_append.1 hq with hq | hq
    · obtain ⟨a1, a2⟩ := hA.blk q hq
      exact ⟨a1.fr h2 (hne a1), a2⟩
    · simp at hq; subst hq
      exact ⟨ho.fr h2 (hne ho), Nat.le_trans hs hg⟩
  · rcases List.mem_append.1 hq with hq | hq
    · have := h.num q hq; omega
    · simp at hq; subst hq
      show 98 ≤ 98 + (k : Int) ∧ 98 + (k : Int) < 98 + ((k + 1 : Nat) : Int)
      omega
  · refine List.pairwise_append.2 ⟨h.ris, List.pairwise_singleton _ _, fun p hp q hq => ?_⟩
    simp at hq; subst hq
    exact (h.num p hp).2
  · cases hk
    rcases h3 with e | e
    · exact h.far _ e
    · exact Nat.le_trans (Nat.le_trans hs hs1) e
theorem RowsAt.blocks {w0 w : World} {k g c : Nat} {L : List Bk} (h : RowsAt w0 w k (.slice (some ⟨g, 0, none⟩) L.length c) L) : BlocksAt w g L := by
  refine ⟨fun i q hq => ?_⟩
  have hi : i < L.length := (List.getElem?_eq_some_iff.1 hq).1
  have hq' : L[i] = q := (List.getElem?_eq_some_iff.1 hq).2
  have hf : ∀ j, j < 2 → (L.flatMap Bk.cells)[i * 2 + j]? = q.cells[j]? := fun j hj => by
    rw [← hq']
    exact flatK Bk.cells L i hi j hj (fun _ => rfl)
  have h0 := h.row.cells (g := g) rfl (i * 2 + 0) (.int .i64 q.n) (by rw [hf 0 (by omega)]; rfl)
  have h1 := h.row.cells (g := g) rfl (i * 2 + 1) q.v (by rw [hf 1 (by omega)]; rfl)
  rw [Addr.add_lit] at h0 h1
  simp only [Nat.zero_add, Nat.add_zero] at h0 h1
  exact ⟨h0, h1, (h.blk q (List.mem_of_getElem? hq)).1⟩
theorem pre_nsB (L : List Bk) (h1 : ∀ q ∈ L, 98 ≤ q.n) (h2 : L.Pairwise fun p q => p.n < q.n) (n : Int) (h3 : ∀ q ∈ L, q.n < n) : may (nsB L) n = true := by
  refine decide_eq_true fun i hi => ?_
  have hi' : i < L.length := by simpa [nsB] using hi
  have e : nth (nsB L) i = (L[i]).n := nth_nsB L i _ (List.getElem?_eq_getElem hi')
  refine ⟨?_, by rw [e]; exact h3 _ (List.getElem_mem hi')⟩
  cases i with
  | zero =>
    have := h1 _ (List.getElem_mem hi')
    simp only [pre, e]
    simp
    omega
  | succ i =>
    have hp : pre (nsB L) (i + 1) = nth (nsB L) i := by simp [pre]
    rw [hp, e, nth_nsB L i _ (List.getElem?_eq_getElem (by omega))]
    exact List.pairwise_iff_getElem.1 h2 i (i + 1) (by omega) hi' (by omega)
theorem RowsAt.ok {w0 w : World} {v : Value} {L : List Bk} (h : RowsAt w0 w 30 v L) (h0 : L ≠ []) : ComOk 128 (nsB L) (dsB L) := by
  have hl := h.len
  have hp : 0 < L.length := by cases L with
    | nil => exact absurd rfl h0
    | cons a l => simp
  refine ⟨by omega, by omega, pre_nsB L (fun q hq => (h.num q hq).1) h.ris _ (fun q hq => by have := h.num q hq; omega), by simp [nsB]; omega, by simp [nsB]; omega, by simp [nsB, dsB], fun b hb => ?_⟩
  simp only [dsB, List.mem_map] at hb
  obtain ⟨q, hq, rfl⟩ := hb
  exact (h.blk q hq).1.len
end Go.Proofs.YtpheajiepnjhdabDoor

namespace Go.Proofs.YtpheajiepnjhdabDoor
open Go.RowKit Rec

theorem blkcells (w : World) (n : Int) (g c : Nat) : ∀ j u, [Value.int .i64 n, .slice (some ⟨g, 0, none⟩) 512 c][j]? = some u → (w.alloc (.cells #[.int .i64 n, .slice (some ⟨g, 0, none⟩) 512 c] 55)).cell? ((⟨w.heap.size, 0, none⟩ : Addr).add j) = some u := fun j u hj => by
  rw [Addr.add_lit, cell_of_row _ _ _ _ _ _ (heap_alloc_new _ _), Nat.zero_add]
  rw [← hj]
  match j with
  | 0 => rfl
  | 1 => rfl
  | j + 2 => simp
theorem wp_kown {ops : Array Oper} {rest : List Oper} {o : Oper} {a : Act} {Q : Exit → Act → World → Prop} {w : World} (hgd : o.guard = none) (s x : Operand)
    (ho : o.op = .call { callee := .builtin .append, args := #[s, x], argTypes := #[34, 34] }) (v : Value) (k : Nat) (l : List Value) (hs : a.eval s = v) (hown : w.ownsRow 0 55 2 v k l)
    (ad : Addr) (m c : Nat) (y : List Value) (hx : a.eval x = .slice (some ad) m c) (hm : 0 < m) (hl : y.length = m * 2) (hb : ∀ j u, y[j]? = some u → w.cell? (ad.add j) = some u) (h1c : ∀ u ∈ y, u.oneCell' = true) (h47 : k + m ≤ 1000000000)
    (h : ∀ g cap w', w'.ownsRow 0 55 2 (.slice (some ⟨g, 0, none⟩) (k + m) cap) (k + m) (l ++ y) → Fr (fun k => v.ownBlock = some k) w w' → (v.ownBlock = some g ∨ w.heap.size ≤ g) → wpList Tryd.prog ops Q rest (a.put o.dst (.slice (some ⟨g, 0, none⟩) (k + m) cap)) w') :
    wpList Tryd.prog ops Q (o :: rest) a w := by
  obtain ⟨i0, hi, hz0, hz1, hz2⟩ := info_parts infoK
  exact wp_own hgd s x 34 ho 55 i0 _ 2 32 Tryd.underlying34 hi hz0 hz1 hz2 rfl (by decide) v k _ hs hown ad m c y hx hm hl hb h1c (by unfold maxLen; omega) (by omega) h
set_option maxRecDepth 100000 in
set_option maxHeartbeats 4000000 in
theorem rows_any (w : World) (a : Option Addr) (n c : Nat) (P : List (Int × Int)) (hP : PtsAt w a P) (hn : P.length = n) :
    Calls Tryd.prog 7 #[.slice a n c] w fun e w' => ∃ v L, e = .returned v ∧ RowsAt w w' 30 v L := by
  have HP : Hid (∀ wx, Below w.heap.size w wx → PtsAt wx a P) := fun wx hb => hP.on hb
  have HN : Hid (P.length = n) := hn
  have hn15 := hP.len
  rw [hn] at hn15
  have HK : Hid (∀ wx y, 0 ≤ y ∧ y < 256 → Calls Tryd.prog 19 #[.slice none 0 0, .int .u8 y] wx fun e w' => ∃ g cap X, e = .returned (.slice (some ⟨g, 0, none⟩) 512 cap) ∧ BlkAt w' g X ∧ wx.heap.size ≤ g ∧ Below wx.heap.size wx w') := fun wx y hy => by
    refine (wblock_any wx none 0 0 [] y (nil_bytes wx) rfl hy).mono ?_
    rintro e w' ⟨g, cap, rfl, ho, hg, hb⟩
    exact ⟨g, cap, _, rfl, BlkAt.of ho (blkOf_length _ _ _), hg, hb⟩
  clear hP hn
  go_enter Tryd.func7, Tryd.ntmps7
  go_wp2
  go_loopw [3, 4] (fun s3 s4 wr => ∃ (k : Nat) (L : List Bk), k ≤ 30 ∧ s4 = .int .i64 k ∧ RowsAt w wr k s3 L) (fun _ s _ => 30 - (intOf s).toNat)
  case atStart => exact ⟨0, [], by omega, rfl, RowsAt.start⟩
  case round =>
    obtain ⟨k, L, hk, rfl, hR⟩ := hrel
    have HR : Hid (RowsAt w wr k u3 L) := hR
    clear hR
    by_cases hlt : k < 30
    · have hltb : decide ((k : Int) < 30) = true := by simp; omega
      go_wp2
      go_loop [3, 5] (fun s3 s5 => s3 = u3 ∧ ∃ i : Int, -1 ≤ i ∧ i < n ∧ s5 = .int .i64 i) (fun _ s => (intOf s + 1).toNat)
      case atStart => exact ⟨rfl, (n : Int) - 1, by omega, by omega, rfl⟩
      case round =>
        obtain ⟨rfl, i, hi1, hi2, rfl⟩ := hrel
        by_cases h0 : 0 ≤ i
        · obtain ⟨m, rfl⟩ : ∃ m : Nat, i = (m : Int) := ⟨i.toNat, by omega⟩
          have hm : m < P.length := by rw [HN.out]; omega
          obtain ⟨q, hq⟩ : ∃ q, P[m]? = some q := ⟨P[m], List.getElem?_eq_getElem hm⟩
          obtain ⟨b, off, rfl, hc⟩ : ∃ b off, a = some ⟨b, off, none⟩ ∧ wr.cell? ⟨b, off + m * 2, none⟩ = some (.int .i64 q.1) ∧ wr.cell? ⟨b, off + m * 2 + 1, none⟩ = some (.int .u8 q.2) ∧ 0 ≤ q.2 ∧ q.2 < 256 := by
            rcases (HP.out _ HR.out.bel).at_ with e | ⟨b, off, rfl, hc⟩
            · rw [e] at hm; simp at hm
            · exact ⟨b, off, rfl, hc m q hq⟩
          obtain ⟨d1, d2, hy⟩ := hc
          have HY : Hid (0 ≤ q.2 ∧ q.2 < 256) := hy
          generalize q.1 = qa at d1
          generalize q.2 = qb at d2 HY
          clear hy hq hm
          have HM : Hid (Calls Tryd.prog 23 #[.int .i64 qa, .int .i64 30] wr fun e w' => e = .returned (.int .i64 (qa % 30)) ∧ wr = w') := wmod_any wr qa 30 (by omega) (by omega)
          by_cases hqk : qa % 30 = (k : Int)
          · rw [hqk] at HM
            clear hqk
            go_wp2_with (first
              | (go_at_call 23; refine HM.out.mono ?_; rintro e w' ⟨rfl, rfl⟩)
              | (go_at_call 19; refine (HK.out _ _ HY.out).mono ?_; rintro e w1 ⟨g, cap, X, rfl, ho, hg, hb⟩; have H1 : Hid (BlkAt w1 g X ∧ wr.heap.size ≤ g ∧ Below wr.heap.size wr w1) := ⟨ho, hg, hb⟩; clear ho hg hb; have HB2 : Hid (Below w1.heap.size w1 (w1.alloc (.cells #[.int .i64 (98 + (k : Int)), .slice (some ⟨g, 0, none⟩) 512 cap] 55))) := (Below.refl _ _).alloc (Nat.le_refl _) _)
              | (at_builtin; refine wp_kown rfl (.tmp 25) (.tmp 35) rfl u3 L.length (L.flatMap Bk.cells) rfl (owns_on (owns_on HR.out.row H1.out.2.2) HB2.out) ⟨w1.heap.size, 0, none⟩ 1 1 [.int .i64 (98 + (k : Int)), .slice (some ⟨g, 0, none⟩) 512 cap] rfl (by omega) rfl (blkcells w1 _ _ _) (fun u hu => by simp at hu; rcases hu with rfl | rfl <;> rfl) (by have := HR.out.len; omega) ?_; intro g3 cap3 w3 ho hf hg; have H3 : Hid (RowsAt w w3 (k + 1) (.slice (some ⟨g3, 0, none⟩) (L.length + 1) cap3) (L ++ [⟨98 + (k : Int), g, cap, X⟩])) := (HR.out.next (H1.out.2.2.trans (HB2.out.mono H1.out.2.2.size)) H1.out.2.1 (H1.out.1.on HB2.out) ho hf hg); clear ho hf hg))
            exact ⟨⟨k + 1, _, by omega, by go_num, H3.out⟩, by simp [intOf]; omega⟩
          · have hqk' : ((qa % 30) == (k : Int)) = false := by simpa using hqk
            clear hqk
            go_wp2_with (go_at_call 23; refine HM.out.mono ?_; rintro e w' ⟨rfl, rfl⟩)
            exact ⟨⟨rfl, (m : Int) - 1, by omega, by omega, rfl⟩, by simp [intOf] <;> omega⟩
        · go_wp2
          exact ⟨⟨k + 1, L, by omega, by go_num, HR.out.up⟩, by simp [intOf]; omega⟩
    · have e : k = 30 := by omega
      subst e
      go_wp2
      go_ret
      exact ⟨_, _, rfl, HR.out⟩
end Go.Proofs.YtpheajiepnjhdabDoor

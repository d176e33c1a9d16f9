import Derived.Test.YtipbflmonhlnjaaBkD
import Derived.Test.YtipbflmonhlnjaaKBkF
import Derived.Test.YtipbflmonhlnjaaKATape
namespace Go.Proofs.Ytipbflmonhlnjaa
open Go.RowKit Rec

/-- behind a row of acts that goes into the book -/
def KaP (w : World) (K : Bk) (v : Value) (L : List ActR) (w' : World) : Prop := ∃ K', BkI w' K' ∧ K'.kb = K.kb ∧ K'.bn = K.bn + L.length ∧ K'.im = K.im ∧ K'.am = K.am + 1 ∧ Fr (fun k => K.all k ∨ v.ownBlock = some k ∨ ∃ q ∈ L, ∃ p, q.a = some p ∧ p.block = k) w w' ∧ ∀ k, K'.all k → K.all k ∨ v.ownBlock = some k ∨ (∃ q ∈ L, ∃ p, q.a = some p ∧ p.block = k) ∨ w.heap.size ≤ k
/-- within the first loop -/
structure KaL (w wr : World) (K Ki : Bk) (L : List ActR) (i : Nat) : Prop where
  bk : BkI wr Ki
  kb : Ki.kb = K.kb
  bn : Ki.bn = K.bn + i
  im : Ki.im = K.im
  am : Ki.am = K.am
  fr : Fr (fun k => K.all k ∨ ∃ q ∈ L, ∃ p, q.a = some p ∧ p.block = k) w wr
  all : ∀ k, Ki.all k → K.all k ∨ (∃ j q p, j < i ∧ L[j]? = some q ∧ q.a = some p ∧ p.block = k) ∨ w.heap.size ≤ k
theorem OwQ.owns {w : World} {q : ActR} (h : OwQ w q) : w.ownsRow 0 5 1 (.slice q.a q.x.length q.c) q.x.length (q.x.map (Value.int .u8)) := by
  rcases h with ⟨h1, h2, h3⟩ | ⟨g, e, ho⟩
  · rw [h1, h2, h3]; exact ⟨by simp, .inl ⟨rfl, rfl⟩⟩
  · rw [e]; exact (RwA.owns (B := 0) (.inr ⟨g, rfl, ho, Nat.zero_le _⟩))
theorem OwQ.lt {w : World} {q : ActR} (h : OwQ w q) {p : Addr} (e : q.a = some p) : p.block < w.heap.size ∧ (Value.slice q.a q.x.length q.c).ownBlock = some p.block := by
  rcases h with ⟨_, h2, _⟩ | ⟨g, e2, ho⟩
  · rw [h2] at e; cases e
  · rw [e2] at e; cases e; rw [e2]; exact ⟨ho.lt, rfl⟩
theorem OwQ.blk {w : World} {q : ActR} (h : OwQ w q) {k : Nat} (e : (Value.slice q.a q.x.length q.c).ownBlock = some k) : ∃ p, q.a = some p ∧ p.block = k := by
  rcases h with ⟨_, h2, _⟩ | ⟨g, e2, ho⟩
  · rw [h2] at e; cases e
  · rw [e2] at e; cases e; exact ⟨_, e2, rfl⟩
theorem OwQ.wf {w : World} {q : ActR} (h : OwQ w q) : ∀ j, 0 ≤ nth q.x j ∧ nth q.x j < 256 := by
  rcases h with ⟨h1, _⟩ | ⟨g, _, ho⟩
  · intro j; rw [h1]; simp [nth]
  · exact ho.wf
theorem OwQ.fra {S : Nat → Prop} {w w' : World} {q : ActR} (h : OwQ w q) (x : Fr S w w') (hS : ∀ p, q.a = some p → ¬ S p.block) : OwQ w' q := by
  rcases h with h | ⟨g, e, ho⟩
  · exact .inl h
  · exact .inr ⟨g, e, ho.fr x (hS _ e)⟩
/-- what is handed in -/
structure KaH (w : World) (K : Bk) (v : Value) (L : List ActR) : Prop where
  row : w.ownsRow 0 86 3 v L.length (L.flatMap ActR.cells)
  own : ∀ q ∈ L, OwQ w q
  dis : DisA L
  len : ∀ q ∈ L, q.x.length ≤ 512
  vk : ∀ k, v.ownBlock = some k → ¬ K.all k
  qk : ∀ q ∈ L, ∀ p, q.a = some p → ¬ K.all p.block
  n : L.length ≤ 10000000
theorem dis_at {L : List ActR} (h : DisA L) {i j : Nat} {q q' : ActR} (hi : L[i]? = some q) (hj : L[j]? = some q') (hij : i < j) {p p' : Addr} (e : q.a = some p) (e' : q'.a = some p') : p.block ≠ p'.block := by
  obtain ⟨i1, rfl⟩ := List.getElem?_eq_some_iff.1 hi
  obtain ⟨j1, rfl⟩ := List.getElem?_eq_some_iff.1 hj
  exact List.pairwise_iff_getElem.1 h i j i1 j1 hij p p' e e'
theorem KaL.zero {w : World} {K : Bk} {L : List ActR} (h : BkI w K) : KaL w w K K L 0 := ⟨h, rfl, rfl, rfl, rfl, Fr.refl _ _, fun _ e => .inl e⟩
theorem KaL.notin {w wr : World} {K Ki : Bk} {v : Value} {L : List ActR} {i : Nat} {q : ActR} (h : KaL w wr K Ki L i) (H : KaH w K v L) (hq : L[i]? = some q) {p : Addr} (e : q.a = some p) : ¬ Ki.all p.block := fun hk => by
  have hm := List.mem_of_getElem? hq
  rcases h.all _ hk with e2 | ⟨j, q', p', hj, hq', e3, e4⟩ | e2
  · exact H.qk q hm p e e2
  · exact dis_at H.dis hq' hq hj e3 e e4
  · have := ((H.own q hm).lt e).1; omega
/-- is q's own row still there? -/
structure KaR (w wr : World) (L : List ActR) (i : Nat) : Prop where
  left : ∀ j q, i ≤ j → L[j]? = some q → OwQ wr q
theorem KaL.next {w wr w' : World} {K Ki : Bk} {v : Value} {L : List ActR} {i : Nat} {q : ActR} (h : KaL w wr K Ki L i) (hr : KaR w wr L i) (H : KaH w K v L) (hq : L[i]? = some q) (hp : KbP wr Ki (.slice q.a q.x.length q.c) q.x w') : ∃ Kj, KaL w w' K Kj L (i + 1) ∧ KaR w w' L (i + 1) := by
  obtain ⟨bv, V, g1, g2, g3⟩ := hp
  have hm := List.mem_of_getElem? hq
  refine ⟨_, ⟨g1, h.kb, ?_, h.im, h.am, ?_, fun k e => ?_⟩, ⟨fun j q' hj hq' => ?_⟩⟩
  · show Ki.bn + 1 = _; rw [h.bn, Nat.add_assoc]
  · refine h.fr.trans g2 (fun k e => ?_)
    rcases e with e | e
    · rcases h.all k e with e | ⟨j, q', p', _, hq', e3, e4⟩ | e
      · exact .inl (.inl e)
      · exact .inl (.inr ⟨q', List.mem_of_getElem? hq', p', e3, e4⟩)
      · exact .inr e
    · obtain ⟨p, e1, e2⟩ := (H.own q hm).blk e
      exact .inl (.inr ⟨q, hm, p, e1, e2⟩)
  · rcases g3 k e with e | e | e
    · rcases h.all k e with e | ⟨j, q', p', hj, hq', e3, e4⟩ | e
      · exact .inl e
      · exact .inr (.inl ⟨j, q', p', by omega, hq', e3, e4⟩)
      · exact .inr (.inr e)
    · obtain ⟨p, e1, e2⟩ := (H.own q hm).blk e
      exact .inr (.inl ⟨i, q, p, by omega, hq, e1, e2⟩)
    · exact .inr (.inr (Nat.le_trans h.fr.size e))
  · refine (hr.left j q' (by omega) hq').fra g2 (fun p e e2 => ?_)
    rcases e2 with e2 | e2
    · rcases h.all _ e2 with e3 | ⟨j', q'', p', hj', hq'', e3, e4⟩ | e3
      · exact H.qk q' (List.mem_of_getElem? hq') p e e3
      · exact dis_at H.dis hq'' hq' (by omega) e3 e e4
      · have := ((H.own q' (List.mem_of_getElem? hq')).lt e).1; omega
    · obtain ⟨p', e1, e3⟩ := (H.own q hm).blk e2
      exact dis_at H.dis hq hq' (by omega) e1 e e3
end Go.Proofs.Ytipbflmonhlnjaa

namespace Go.Proofs.Ytipbflmonhlnjaa
open Go.RowKit Rec

/-- a row of acts: kinds and blocks are numbers -/
def AcG (n : Nat) (c : List Value) : Prop := ∀ j, j < n → ∃ (x y : Int) (z : Value), c[j * 3]? = some (.int .i64 x) ∧ c[j * 3 + 1]? = some (.int .i64 y) ∧ c[j * 3 + 2]? = some z
def set3 (c : List Value) (k : Nat) (m : Int) : List Value := ((c.set (k * 3) (.int .i64 m)).set (k * 3 + 1) (.int .i64 0)).set (k * 3 + 2) (.slice none 0 0)
theorem AcG.set3 {n k : Nat} {c : List Value} (h : AcG n c) (hl : c.length = n * 3) (hk : k < n) (m : Int) : AcG n (set3 c k m) := by
  intro j hj
  obtain ⟨x, y, z, h1, h2, h3⟩ := h j hj
  unfold Go.Proofs.Ytipbflmonhlnjaa.set3
  by_cases e : j = k
  · subst e
    refine ⟨m, 0, .slice none 0 0, ?_, ?_, ?_⟩ <;> (simp only [List.getElem?_set, List.length_set]; simp; try omega)
  · refine ⟨x, y, z, ?_, ?_, ?_⟩
    · rw [List.getElem?_set_ne (by omega), List.getElem?_set_ne (by omega), List.getElem?_set_ne (by omega)]; exact h1
    · rw [List.getElem?_set_ne (by omega), List.getElem?_set_ne (by omega), List.getElem?_set_ne (by omega)]; exact h2
    · rw [List.getElem?_set_ne (by omega), List.getElem?_set_ne (by omega), List.getElem?_set_ne (by omega)]; exact h3
theorem AcG.same {n : Nat} {c : List Value} (h : AcG n c) : AcS n c c := fun j hj => by
  obtain ⟨x, y, _, h1, h2, _⟩ := h j hj
  exact ⟨x, y, h1, h1, h2, h2⟩
theorem acG_of (L : List ActR) : AcG L.length (L.flatMap ActR.cells) := fun j hj => by
  obtain ⟨h1, h2, h3⟩ := cells_at L j L[j] (List.getElem?_eq_getElem hj)
  exact ⟨_, _, _, h1, h2, h3⟩
/-- both rows of acts are the same -/
structure CuA (w wr : World) (a : Option Addr) (n c : Nat) (ua : Option Addr) (uc : Nat) (C : List Value) : Prop where
  g : AcG n C
  v : wr.ownsRow 0 86 3 (.slice a n c) n C
  u : wr.ownsRow 0 86 3 (.slice ua n uc) n C
  fr : Fr (fun k => (Value.slice a n c).ownBlock = some k) w wr
  lo : ∀ k, (Value.slice a n c).ownBlock = some k → k < w.heap.size
  hi : ∀ k, (Value.slice ua n uc).ownBlock = some k → w.heap.size ≤ k
theorem CuA.ne {w wr : World} {n c g gu uc : Nat} {C : List Value} (h : CuA w wr (some ⟨g, 0, none⟩) n c (some ⟨gu, 0, none⟩) uc C) : g ≠ gu := by
  have := h.lo g rfl; have := h.hi gu rfl; omega
def w3s (w : World) (g k : Nat) (m : Int) : World := ((w.setCell ⟨g, k * 3, none⟩ (.int .i64 m)).setCell ⟨g, k * 3 + 1, none⟩ (.int .i64 0)).setCell ⟨g, k * 3 + 2, none⟩ (.slice none 0 0)
theorem w3s_own {w : World} {g n cap k : Nat} {C : List Value} {m : Int} (h : w.ownsRow 0 86 3 (.slice (some ⟨g, 0, none⟩) n cap) n C) : (w3s w g k m).ownsRow 0 86 3 (.slice (some ⟨g, 0, none⟩) n cap) n (set3 C k m) := (((h.stored _ _).1.stored _ _).1.stored _ _).1
theorem w3s_fr (w : World) (g k : Nat) (m : Int) : Fr (fun b => b = g) w (w3s w g k m) := ((Fr.set.trans Fr.set (fun _ e => .inl e)).trans Fr.set (fun _ e => .inl e))
theorem CuA.next {w wr : World} {n c g gu uc k : Nat} {C : List Value} (h : CuA w wr (some ⟨g, 0, none⟩) n c (some ⟨gu, 0, none⟩) uc C) (hk : k < n) (m : Int) : CuA w (w3s (w3s wr g k m) gu k m) (some ⟨g, 0, none⟩) n c (some ⟨gu, 0, none⟩) uc (set3 C k m) := by
  have hne := h.ne
  refine ⟨h.g.set3 h.v.1 hk m, owns_fr (w3s_own h.v) (w3s_fr _ _ _ _) (fun b e e2 => by cases e; exact hne e2), w3s_own (owns_fr h.u (w3s_fr _ _ _ _) (fun b e e2 => by cases e; exact hne e2.symm)), ?_, h.lo, h.hi⟩
  exact (h.fr.trans (w3s_fr _ _ _ _) (fun b e => .inl (by rw [show b = g from e]; rfl))).trans (w3s_fr _ _ _ _) (fun b e => .inr (by rw [show b = gu from e]; exact h.hi gu rfl))
theorem CuA.cell1 {w wr : World} {n c g : Nat} {ua : Option Addr} {uc k : Nat} {C : List Value} (h : CuA w wr (some ⟨g, 0, none⟩) n c ua uc C) (hk : k < n) : ∃ (x y : Int) (z : Value), wr.cell? ⟨g, k * 3, none⟩ = some (.int .i64 x) ∧ wr.cell? ⟨g, k * 3 + 1, none⟩ = some (.int .i64 y) ∧ wr.cell? ⟨g, k * 3 + 2, none⟩ = some z := by
  obtain ⟨x, y, z, h1, h2, h3⟩ := h.g k hk
  exact ⟨x, y, z, by rw [h.v.cellAt _ (by omega)]; exact h1, by rw [h.v.cellAt _ (by omega)]; exact h2, by rw [h.v.cellAt _ (by omega)]; exact h3⟩
theorem CuA.cell2 {w wr wx : World} {n c g gu : Nat} {uc k : Nat} {C : List Value} (h : CuA w wr (some ⟨g, 0, none⟩) n c (some ⟨gu, 0, none⟩) uc C) (hk : k < n) (x : Fr (fun b => b = g) wr wx) : ∃ (x y : Int) (z : Value), wx.cell? ⟨gu, k * 3, none⟩ = some (.int .i64 x) ∧ wx.cell? ⟨gu, k * 3 + 1, none⟩ = some (.int .i64 y) ∧ wx.cell? ⟨gu, k * 3 + 2, none⟩ = some z ∧ ∀ j, wx.frozen? ⟨gu, j, none⟩ = false := by
  have hu := owns_fr h.u x (fun b e e2 => by cases e; exact h.ne e2.symm)
  obtain ⟨x, y, z, h1, h2, h3⟩ := h.g k hk
  exact ⟨x, y, z, by rw [hu.cellAt _ (by omega)]; exact h1, by rw [hu.cellAt _ (by omega)]; exact h2, by rw [hu.cellAt _ (by omega)]; exact h3, fun j => hu.frozenAt j⟩
theorem ka1 {wc wa w1 : World} {K : Bk} {kb am : Nat} {ia ta : Option Addr} {ic tc b bc : Nat} (hK : BkI wc K ∧ K.kb = kb ∧ K.am = am ∧ K.av = .slice ia am ic ∧ K.wv = .slice ta am tc) (ha : Below wc.heap.size wc wa) (h2 : Fr (fun k => (Value.slice ia am ic).ownBlock = some k) wa w1) :
    w1.heap[kb]? = some (.cells K.cells 41 (0, 0)) ∧ ∀ w2, w2 = w1.setCell ⟨kb, 3, none⟩ (.slice (some ⟨b, 0, none⟩) (am + 1) bc) → w2.heap[kb]? = some (.cells #[K.bv, K.iv, K.tv, .slice (some ⟨b, 0, none⟩) (am + 1) bc, K.wv] 41 (0, 0)) ∧ w2.ownsRow 0 51 1 (.slice ta am tc) am ((List.range am).flatMap (fun i => [K.wV i])) := by
  obtain ⟨hC, e1, e2, e3, e4⟩ := hK
  subst e1 e2
  rw [← e3] at h2
  have ya := hC.on ha
  have hb1 := h2.heap ya.box (fun e => own_apartX ya.a.row ya.box (by decide) e)
  refine ⟨hb1, fun w2 hw => ?_⟩
  rw [hw, ← e4]
  have ht := ya.w.fr h2 (fun k e e2 => ya.aw k (.inl e2) e)
  exact ⟨heap_setCell_same _ _ 3 _ _ _ hb1, (ht.fr (Fr.set (g := K.kb)) (fun k e => ht.box hb1 (by decide) (by decide) e)).row⟩
/-- behind the two appends -/
def KaQ (w : World) (K : Bk) (v : Value) (w' : World) : Prop := ∃ X Y u m c, BkI w' (K.addA X Y v u m c c) ∧ Fr (fun k => K.all k ∨ v.ownBlock = some k) w w' ∧ ∀ k, (K.addA X Y v u m c c).all k → K.all k ∨ v.ownBlock = some k ∨ w.heap.size ≤ k
theorem ka2 {w wc wa w1 w2 wb w3 : World} {K : Bk} {kb am n : Nat} {ia ta a ua : Option Addr} {ic tc c uc b bc b' bc' : Nat} {C : List Value} (hK : BkI w K ∧ K.kb = kb ∧ K.am = am ∧ K.av = .slice ia am ic ∧ K.wv = .slice ta am tc) (hv : ∀ k, (Value.slice a n c).ownBlock = some k → ¬ K.all k)
    (hY : CuA w wc a n c ua uc C) (hn : n ≤ 10000000) (hb : am + 1 ≤ 1000000000000) (ha : Below wc.heap.size wc wa)
    (H1 : w1.ownsRow 0 51 1 (.slice (some ⟨b, 0, none⟩) (am + 1) bc) (am + 1) ((List.range am).flatMap (fun i => [K.aV i]) ++ [.slice a n c]) ∧ Fr (fun k => (Value.slice ia am ic).ownBlock = some k) wa w1 ∧ ((Value.slice ia am ic).ownBlock = some b ∨ wa.heap.size ≤ b))
    (hw2 : w1.setCell ⟨kb, 3, none⟩ (.slice (some ⟨b, 0, none⟩) (am + 1) bc) = w2) (ha2 : Below w2.heap.size w2 wb)
    (h1 : w3.ownsRow 0 51 1 (.slice (some ⟨b', 0, none⟩) (am + 1) bc') (am + 1) ((List.range am).flatMap (fun i => [K.wV i]) ++ [.slice ua n uc])) (h2 : Fr (fun k => (Value.slice ta am tc).ownBlock = some k) wb w3) (h3 : (Value.slice ta am tc).ownBlock = some b' ∨ wb.heap.size ≤ b') :
    w3.heap[kb]? = some (.cells #[K.bv, K.iv, K.tv, .slice (some ⟨b, 0, none⟩) (am + 1) bc, K.wv] 41 (0, 0)) ∧ KaQ w K (.slice a n c) (w3.setCell ⟨kb, 4, none⟩ (.slice (some ⟨b', 0, none⟩) (am + 1) bc')) := by
  obtain ⟨hI, e1, e2, e3, e4⟩ := hK
  subst e1 e2
  rw [← e3] at H1
  rw [← e4] at h2 h3
  have fa : Fr (fun k => (Value.slice a n c).ownBlock = some k) w wa := hY.fr.trans (below_fr ha (fun _ => False)) (fun _ e => e.elim)
  have hT := two_add (ty := 51) (el := 86) (sz := 3) (tB := 41) (kb := K.kb) (j := 3) (j' := 4) (by decide) (by decide) (by decide) hI.a hI.w hI.aw hI.box fa (fun k e => ⟨fun e2 => hv k e (.inr (.inr (.inr (.inr (.inl e2))))), fun e2 => hv k e (.inr (.inr (.inr (.inr (.inr e2))))), fun e2 => hv k e (.inl e2)⟩) (fun k e => ⟨hY.hi k e, fun e2 => by have := hY.lo k e2; have := hY.hi k e; omega⟩) (owns_fr hY.v (below_fr ha (fun _ => False)) (fun _ _ e => e)) (owns_fr hY.u (below_fr ha (fun _ => False)) (fun _ _ e => e)) H1.1 H1.2.1 H1.2.2 hw2.symm ha2 h1 h2 h3
  obtain ⟨g1, g2, g3⟩ := hI.addA hv hY.g.same hn hb hT
  exact ⟨hT.b3, _, _, _, _, _, g1, g2, g3⟩
end Go.Proofs.Ytipbflmonhlnjaa

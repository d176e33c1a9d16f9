import Derived.Test.YtipbflmonhlnjaaPoA
namespace Go.Proofs.Ytipbflmonhlnjaa
open Go.RowKit Rec

/-- what looks leaves of the book -/
def LkP (w : World) (K : Bk) (j : Nat) (w' : World) : Prop := ∃ K', BkI w' K' ∧ K'.kb = K.kb ∧ K'.bn ≤ K.bn + 2 * j + 2 ∧ K'.im ≤ K.im + 2 ∧ K'.am ≤ K.am + 2 ∧ Fr K.all w w' ∧ ∀ k, K'.all k → K.all k ∨ w.heap.size ≤ k
theorem LkP.zero {w w' : World} {K : Bk} {j : Nat} (h : BkI w K) (hb : Below w.heap.size w w') : LkP w K j w' := ⟨K, h.on hb, rfl, by omega, by omega, by omega, below_fr hb _, fun _ e => .inl e⟩
/-- something went into the book -/
structure Ad (wx : World) (K : Bk) (S : Nat → Prop) (w1 : World) (K1 : Bk) (db di da : Nat) : Prop where
  bk : BkI w1 K1
  kb : K1.kb = K.kb
  bn : K1.bn = K.bn + db
  im : K1.im = K.im + di
  am : K1.am = K.am + da
  fr : Fr (fun k => K.all k ∨ S k) wx w1
  all : ∀ k, K1.all k → K.all k ∨ S k ∨ wx.heap.size ≤ k
theorem Ad.two {w wx w1 w2 : World} {K K1 K2 : Bk} {S1 S2 : Nat → Prop} {j db di da db' di' da' : Nat} (hb : Below w.heap.size w wx) (h1 : Ad wx K S1 w1 K1 db di da) (h2 : Ad w1 K1 S2 w2 K2 db' di' da') (b1 : ∀ k, S1 k → w.heap.size ≤ k) (b2 : ∀ k, S2 k → w.heap.size ≤ k) (n1 : db + db' ≤ 2 * j + 2) (n2 : di + di' ≤ 2) (n3 : da + da' ≤ 2) : LkP w K j w2 := by
  have e1 := h1.bn; have e2 := h2.bn; have e3 := h1.im; have e4 := h2.im; have e5 := h1.am; have e6 := h2.am
  have hA : ∀ k, K1.all k → K.all k ∨ w.heap.size ≤ k := fun k e => by
    rcases h1.all k e with e | e | e
    · exact .inl e
    · exact .inr (b1 k e)
    · exact .inr (Nat.le_trans hb.size e)
  refine ⟨K2, h2.bk, by rw [h2.kb, h1.kb], by omega, by omega, by omega, ?_, fun k e => ?_⟩
  · refine ((below_fr hb _).trans h1.fr (fun k e => ?_)).trans h2.fr (fun k e => ?_)
    · exact e.imp id (b1 k)
    · rcases e with e | e
      · exact hA k e
      · exact .inr (b2 k e)
  · rcases h2.all k e with e | e | e
    · exact hA k e
    · exact .inr (b2 k e)
    · exact .inr (Nat.le_trans hb.size (Nat.le_trans h1.fr.size e))
/-- what is handed in next is not in the book -/
theorem Ad.out {w wx w1 : World} {K K1 : Bk} {S1 : Nat → Prop} {db di da : Nat} (hK : BkI w K) (h1 : Ad wx K S1 w1 K1 db di da) {k : Nat} (b2 : w.heap.size ≤ k ∧ ¬ S1 k ∧ k < wx.heap.size) : ¬ K1.all k ∧ ¬ (K.all k ∨ S1 k) := by
  have hn : ¬ K.all k := fun e => by have := hK.lt e; omega
  refine ⟨fun e => ?_, fun e => e.elim hn b2.2.1⟩
  rcases h1.all k e with e | e | e
  · exact hn e
  · exact b2.2.1 e
  · omega
theorem adB {wx w1 : World} {K : Bk} {v : Value} {x : List Int} (h : KbP wx K v x w1) : ∃ K1, Ad wx K (fun k => v.ownBlock = some k) w1 K1 1 0 0 := by
  obtain ⟨bv, V, g1, g2, g3⟩ := h
  exact ⟨_, g1, rfl, rfl, rfl, rfl, g2, g3⟩
theorem adI {wx w1 : World} {K : Bk} {v : Value} (h : KiP wx K v w1) : ∃ K1, Ad wx K (fun k => v.ownBlock = some k) w1 K1 0 1 0 := by
  obtain ⟨X, Y, u, x, g1, g2, g3⟩ := h
  exact ⟨_, g1, rfl, rfl, rfl, rfl, g2, g3⟩
def inA (v : Value) (L : List ActR) (k : Nat) : Prop := v.ownBlock = some k ∨ ∃ q ∈ L, ∃ p, q.a = some p ∧ p.block = k
theorem adA {wx w1 : World} {K : Bk} {v : Value} {L : List ActR} (h : KaP wx K v L w1) : ∃ K1, Ad wx K (inA v L) w1 K1 L.length 0 1 := by
  obtain ⟨K1, g1, g2, g3, g4, g5, g6, g7⟩ := h
  refine ⟨K1, g1, g2, g3, g4, g5, g6, fun k e => ?_⟩
  rcases g7 k e with e | e | e | e
  · exact .inl e
  · exact .inr (.inl (.inl e))
  · exact .inr (.inl (.inr e))
  · exact .inr (.inr e)
/-- two answers in bytes into the book -/
theorem two_bytes {w wx : World} {K : Bk} {j : Nat} (h : BkI w K) (hb : Below w.heap.size w wx) {v1 v2 : Value} {x : List Int} (h1 : wx.ownsRow 0 5 1 v1 x.length (x.map (Value.int .u8))) (h2 : wx.ownsRow 0 5 1 v2 x.length (x.map (Value.int .u8))) (hw : ∀ j, 0 ≤ nth x j ∧ nth x j < 256) (hx : x.length ≤ 10000000) (b1 : ∀ k, v1.ownBlock = some k → w.heap.size ≤ k) (b2 : ∀ k, v2.ownBlock = some k → w.heap.size ≤ k ∧ v1.ownBlock ≠ some k) (hn : K.bn + 2 ≤ 1000000000000) :
    Calls Try.prog 35 #[.pointer (some ⟨K.kb, 0, none⟩), v1] wx fun e w1 => e = .returned (.tuple #[]) ∧ Calls Try.prog 35 #[.pointer (some ⟨K.kb, 0, none⟩), v2] w1 fun e w2 => e = .returned (.tuple #[]) ∧ LkP w K j w2 := by
  refine (kbytes_any wx K (h.on hb) v1 x.length x h1 hx hw (fun k e e2 => by have := h.lt e2; have := b1 k e; omega) (by omega)).mono ?_
  rintro e w1 ⟨rfl, hp⟩
  obtain ⟨K1, a1⟩ := adB hp
  refine ⟨rfl, ?_⟩
  have ho : ∀ k, v2.ownBlock = some k → ¬ K1.all k ∧ ¬ (K.all k ∨ v1.ownBlock = some k) := fun k e => a1.out h ⟨(b2 k e).1, (b2 k e).2, owns_block h2 e⟩
  have e1 := a1.bn
  have hc := kbytes_any w1 K1 a1.bk v2 x.length x (owns_fr h2 a1.fr (fun k e => (ho k e).2)) hx hw (fun k e => (ho k e).1) (by omega)
  rw [a1.kb] at hc
  refine hc.mono ?_
  rintro e w2 ⟨rfl, hp2⟩
  obtain ⟨K2, a2⟩ := adB hp2
  exact ⟨rfl, a1.two hb a2 b1 (fun k e => (b2 k e).1) (by omega) (by omega) (by omega)⟩
/-- two answers in numbers into the book -/
theorem two_ints {w wx : World} {K : Bk} {j : Nat} (h : BkI w K) (hb : Below w.heap.size w wx) {v1 v2 : Value} {x : List Int} (h1 : wx.ownsRow 0 3 1 v1 x.length (x.map (Value.int .i64))) (h2 : wx.ownsRow 0 3 1 v2 x.length (x.map (Value.int .i64))) (hx : x.length ≤ 10000000) (b1 : ∀ k, v1.ownBlock = some k → w.heap.size ≤ k) (b2 : ∀ k, v2.ownBlock = some k → w.heap.size ≤ k ∧ v1.ownBlock ≠ some k) (hn : K.im + 2 ≤ 1000000000000) :
    Calls Try.prog 40 #[.pointer (some ⟨K.kb, 0, none⟩), v1] wx fun e w1 => e = .returned (.tuple #[]) ∧ Calls Try.prog 40 #[.pointer (some ⟨K.kb, 0, none⟩), v2] w1 fun e w2 => e = .returned (.tuple #[]) ∧ LkP w K j w2 := by
  refine (kints_any wx K (h.on hb) v1 x.length x h1 hx (fun k e e2 => by have := h.lt e2; have := b1 k e; omega) (by omega)).mono ?_
  rintro e w1 ⟨rfl, hp⟩
  obtain ⟨K1, a1⟩ := adI hp
  refine ⟨rfl, ?_⟩
  have ho : ∀ k, v2.ownBlock = some k → ¬ K1.all k ∧ ¬ (K.all k ∨ v1.ownBlock = some k) := fun k e => a1.out h ⟨(b2 k e).1, (b2 k e).2, owns_block h2 e⟩
  have e1 := a1.im
  have hc := kints_any w1 K1 a1.bk v2 x.length x (owns_fr h2 a1.fr (fun k e => (ho k e).2)) hx (fun k e => (ho k e).1) (by omega)
  rw [a1.kb] at hc
  refine hc.mono ?_
  rintro e w2 ⟨rfl, hp2⟩
  obtain ⟨K2, a2⟩ := adI hp2
  exact ⟨rfl, a1.two hb a2 b1 (fun k e => (b2 k e).1) (by omega) (by omega) (by omega)⟩
/-- an answer in acts, in memory of its own -/
structure AnsA (B : Nat) (w : World) (v : Value) (L : List ActR) : Prop where
  row : w.ownsRow 0 86 3 v L.length (L.flatMap ActR.cells)
  own : ∀ q ∈ L, OwQ w q
  dis : DisA L
  len : ∀ q ∈ L, q.x.length ≤ 512
  new : ∀ k, inA v L k → B ≤ k
theorem AnsA.lt {B : Nat} {w : World} {v : Value} {L : List ActR} (h : AnsA B w v L) {k : Nat} (e : inA v L k) : k < w.heap.size := by
  rcases e with e | ⟨q, hq, p, e, rfl⟩
  · exact owns_block h.row e
  · exact ((h.own q hq).lt e).1
theorem AnsA.fr {S : Nat → Prop} {B : Nat} {w w' : World} {v : Value} {L : List ActR} (h : AnsA B w v L) (x : Fr S w w') (hS : ∀ k, inA v L k → ¬ S k) : AnsA B w' v L :=
  ⟨owns_fr h.row x (fun k e => hS k (.inl e)), fun q hq => (h.own q hq).fra x (fun p e => hS _ (.inr ⟨q, hq, p, e, rfl⟩)), h.dis, h.len, h.new⟩
theorem AnsA.on {B : Nat} {w w' : World} {v : Value} {L : List ActR} (h : AnsA B w v L) (hb : Below w.heap.size w w') : AnsA B w' v L := h.fr (below_fr hb (fun _ => False)) (fun _ _ e => e)
theorem AnsA.kah {B : Nat} {w : World} {K : Bk} {v : Value} {L : List ActR} (h : AnsA B w v L) (hk : ∀ k, inA v L k → ¬ K.all k) (hn : L.length ≤ 10000000) : KaH w K v L :=
  ⟨h.row, h.own, h.dis, h.len, fun k e => hk k (.inl e), fun q hq p e => hk _ (.inr ⟨q, hq, p, e, rfl⟩), hn⟩
/-- two answers in acts into the book -/
theorem two_acts {w wx : World} {K : Bk} {j B1 B2 : Nat} (h : BkI w K) (hb : Below w.heap.size w wx) {v1 v2 : Value} {L1 L2 : List ActR} (h1 : AnsA B1 wx v1 L1) (h2 : AnsA B2 wx v2 L2) (hl1 : L1.length ≤ j) (hl2 : L2.length ≤ j) (hj : j ≤ 10000000) (hB1 : w.heap.size ≤ B1) (hB2 : ∀ k, inA v1 L1 k → k < B2) (hB3 : w.heap.size ≤ B2) (hn : K.bn + 2 * j + 2 ≤ 1000000000000) (hm : K.am + 2 ≤ 1000000000000) :
    Calls Try.prog 44 #[.pointer (some ⟨K.kb, 0, none⟩), v1] wx fun e w1 => e = .returned (.tuple #[]) ∧ Calls Try.prog 44 #[.pointer (some ⟨K.kb, 0, none⟩), v2] w1 fun e w2 => e = .returned (.tuple #[]) ∧ LkP w K j w2 := by
  refine (kacts_any wx K (h.on hb) v1 L1 (h1.kah (fun k e e2 => by have := h.lt e2; have := h1.new k e; omega) (by omega)) (by omega) (by omega)).mono ?_
  rintro e w1 ⟨rfl, hp⟩
  obtain ⟨K1, a1⟩ := adA hp
  refine ⟨rfl, ?_⟩
  have ho : ∀ k, inA v2 L2 k → ¬ K1.all k ∧ ¬ (K.all k ∨ inA v1 L1 k) := fun k e => a1.out h ⟨by have := h2.new k e; omega, (fun e2 => by have := h2.new k e; have := hB2 k e2; omega), h2.lt e⟩
  have e1 := a1.bn
  have e2 := a1.am
  have hc := kacts_any w1 K1 a1.bk v2 L2 ((h2.fr a1.fr (fun k e => (ho k e).2)).kah (fun k e => (ho k e).1) (by omega)) (by omega) (by omega)
  rw [a1.kb] at hc
  refine hc.mono ?_
  rintro e w2 ⟨rfl, hp2⟩
  obtain ⟨K2, a2⟩ := adA hp2
  exact ⟨rfl, a1.two hb a2 (fun k e => by have := h1.new k e; omega) (fun k e => by have := h2.new k e; omega) (by omega) (by omega) (by omega)⟩
/-- a row of acts as rows of the document -/
theorem acts_of {w : World} {v : Value} {L : List ActR} (h : w.ownsRow 0 86 3 v L.length (L.flatMap ActR.cells)) (hb : ∀ q ∈ L, Bytes w q.a q.x) (hl : L.length ≤ 3518437208780) : ∃ a c, v = .slice a L.length c ∧ Acts w a L := by
  obtain ⟨a, c, rfl, _, hp, hc⟩ := owns_slice h
  refine ⟨a, c, rfl, ?_, hb, hl⟩
  rcases hp with e | ⟨g, rfl⟩
  · exact .inl (List.eq_nil_of_length_eq_zero e)
  · refine .inr ⟨g, 0, rfl, fun i q hq => ?_⟩
    obtain ⟨h1, h2, h3⟩ := cells_at L i q hq
    have e := (hc g 0 rfl).2.1
    rw [Nat.zero_add]
    exact ⟨e _ _ h1, e _ _ h2, e _ _ h3⟩
theorem OwQ.bytes {w : World} {q : ActR} (h : OwQ w q) : Bytes w q.a q.x := by
  rcases h with ⟨h1, h2, _⟩ | ⟨g, e, ho⟩
  · rw [h1, h2]; exact (RwA.bytes (B := 0) (.inl ⟨rfl, rfl, rfl⟩) : Bytes w none [])
  · rw [e]; exact ho.bytes
end Go.Proofs.Ytipbflmonhlnjaa

import Derived.Test.YtdheojhfgeabhaaDoorInZg
import Derived.Test.YtdheojhfgeabhaaDoorKInL
import Derived.Deep.CutBlock
import Derived.Deep.RegionHeld3
import Derived.Laws.Concat
namespace Go.Proofs.YtdheojhfgeabhaaDoor
open Go.RowKit Rec
/-- the bytes of a record, none where it may not be -/
def encR (x : Nat → Int) : List Int := if rMay x then rby x else []
def encF (x : Nat → Int) : Int := if rMay x then 0 else 111
/-- bytes in a row of one's own, or none -/
def RwU (B : Nat) (w : World) (a : Option Addr) (cap : Nat) (R : List Int) : Prop := (R = [] ∧ a = none ∧ cap = 0) ∨ ∃ g, a = some ⟨g, 0, none⟩ ∧ OwnB w g cap R ∧ B ≤ g
theorem RwU.bytes {B : Nat} {w : World} {a : Option Addr} {cap : Nat} {R : List Int} (h : RwU B w a cap R) : Bytes w a R := by
  rcases h with ⟨rfl, rfl, _⟩ | ⟨g, rfl, h, _⟩
  · exact ⟨by simp, fun i => by simp [nth], .inl rfl⟩
  · exact h.bytes
theorem RwU.on {B : Nat} {w w' : World} {a : Option Addr} {cap : Nat} {R : List Int} (h : RwU B w a cap R) (hb : Below w.heap.size w w') : RwU B w' a cap R := by
  rcases h with h | ⟨g, e, h, hB⟩
  · exact .inl h
  · exact .inr ⟨g, e, h.on hb, hB⟩
theorem RwU.cap {B : Nat} {w : World} {a : Option Addr} {cap : Nat} {R : List Int} (h : RwU B w a cap R) : R.length ≤ cap ∧ (a = none → cap = 0) := by
  rcases h with ⟨rfl, rfl, rfl⟩ | ⟨g, rfl, h, _⟩
  · exact ⟨Nat.le_refl _, fun _ => rfl⟩
  · exact ⟨h.room, fun e => by cases e⟩
theorem RwU.owns {B : Nat} {w : World} {a : Option Addr} {cap : Nat} {R : List Int} (h : RwU B w a cap R) : w.ownsRow 0 5 1 (.slice a R.length cap) R.length (R.map (Value.int .u8)) := by
  rcases h with ⟨rfl, rfl, rfl⟩ | ⟨g, rfl, h, _⟩
  · exact ⟨rfl, .inl ⟨rfl, rfl⟩⟩
  · exact owns_of (B := 0) h (Nat.zero_le _)
theorem encR_len (x : Nat → Int) : (encR x).length = 64 ∧ rMay x = true ∨ encR x = [] ∧ rMay x = false := by
  unfold encR
  cases h : rMay x
  · exact .inr ⟨rfl, rfl⟩
  · exact .inl ⟨by simp [rby], rfl⟩
theorem encU (w : World) (x : Nat → Int) (hx : ∀ i, -9223372036854775808 ≤ x i ∧ x i ≤ 9223372036854775807) (hT : TabAt w) : Calls Tryd.prog 6 #[inV x] w fun e w' => ∃ a cap, e = .returned (.tuple #[.slice a (encR x).length cap, .int .i64 (encF x)]) ∧ RwU w.heap.size w' a cap (encR x) ∧ Below w.heap.size w w' := by
  unfold encR encF
  cases h : rMay x
  · refine (enc_no w x hx h).mono ?_
    rintro e w' ⟨rfl, hb⟩
    exact ⟨none, 0, rfl, .inl ⟨rfl, rfl, rfl⟩, hb⟩
  · refine (enc_ok w x hx h hT).mono ?_
    rintro e w' ⟨g, rfl, hg, ho, hb⟩
    exact ⟨_, 64, by simp [rby], .inr ⟨g, rfl, ho, hg⟩, hb⟩
theorem rencU (w : World) (x : Nat → Int) (hx : ∀ i, -9223372036854775808 ≤ x i ∧ x i ≤ 9223372036854775807) : Calls Tryd.prog 5 #[inV x] w fun e w' => ∃ a cap, e = .returned (.tuple #[.slice a (encR x).length cap, .int .i64 (encF x)]) ∧ RwU w.heap.size w' a cap (encR x) ∧ Below w.heap.size w w' := by
  refine (renc_any w x hx).mono ?_
  unfold encR encF
  rintro e w' ⟨hb, ⟨h, rfl⟩ | ⟨h, g, cap, rfl, ho, hg⟩⟩
  · rw [h]; exact ⟨none, 0, rfl, .inl ⟨rfl, rfl, rfl⟩, hb⟩
  · rw [h]; exact ⟨_, cap, by simp [rby], .inr ⟨g, rfl, ho, hg⟩, hb⟩
theorem rdec_any (w : World) (a : Option Addr) (n c : Nat) (l : List Int) (hn : l.length = n) (hO : Bytes w a l) (hc : n ≤ c) : Calls Tryd.prog 8 #[.slice a n c] w fun e w' => e = .returned (.tuple #[inV (decX l), .int .i64 (decE l)]) ∧ Below w.heap.size w w' := by
  by_cases h : n = 64
  · subst h
    rcases hO.at_ with e | ⟨b, o, rfl, _⟩
    · subst e; simp at hn
    · exact rdec_64 w b o c l hn hO hc
  · exact rdec_size w a n c l hn h (by rw [← hn]; exact hO.len)
theorem wp_bcopyI {ops : Array Oper} {rest : List Oper} {o : Oper} {a : Act} {Q : Exit → Act → World → Prop} {w7 : World} (hgd : o.guard = none) (s x : Operand)
    (ho : o.op = .call { callee := .builtin .append, args := #[s, x], argTypes := #[25, 25] }) (G : Nat) (hG : w7.heap.size = G) (hs : a.eval s = .slice (some ⟨G, 0, none⟩) 0 0)
    (ad : Option Addr) (m c : Nat) (y : List Int) (hx : a.eval x = .slice ad m c) (hl : y.length = m) (hb : Bytes w7 ad y) (hz : ad = none → c = 0) (h47 : m ≤ 140737488355328)
    (h : ∀ g cap w', OwnB w' g cap y → Below w7.heap.size w7 w' → w7.heap.size ≤ g → m ≤ cap → wpList Tryd.prog ops Q rest (a.put o.dst (.slice (some ⟨g, 0, none⟩) m cap)) w') :
    wpList Tryd.prog ops Q (o :: rest) a (w7.alloc (.cells #[] 5)) := by
  subst hG
  have hA : Below w7.heap.size w7 (w7.alloc (.cells #[] 5)) := (Below.refl _ _).alloc (Nat.le_refl _) _
  have hE : OwnB (w7.alloc (.cells #[] 5)) w7.heap.size 0 [] := own_empty (heap_alloc_new _ _)
  refine wp_app hgd s x ho w7.heap.size w7.heap.size 0 0 [] y rfl hs hE (Nat.le_refl _) hA.size ad m c hx hl (hb.on hA) hz (by omega) ?_
  intro g cap w2 hg ho' hgr
  rw [List.nil_append] at ho'
  rw [Nat.zero_add]
  exact h g cap w2 ho' (hA.grown hgr hA.size (by intro k hk; cases hk; exact Nat.le_refl _)) hg (by have := ho'.room; omega)
theorem xor_bd (c y : Int) (hc : 0 ≤ c ∧ c < 256) (hy : 0 ≤ y ∧ y < 256) : 0 ≤ bits .xor .u8 c y ∧ bits .xor .u8 c y < 256 := by
  obtain ⟨C, rfl⟩ := Int.eq_ofNat_of_zero_le hc.1
  obtain ⟨Y, rfl⟩ := Int.eq_ofNat_of_zero_le hy.1
  have hC : C < 2 ^ 8 := by omega
  have hY : Y < 2 ^ 8 := by omega
  have hlt : C ^^^ Y < 2 ^ 8 := Nat.xor_lt_two_pow hC hY
  rw [u8_xor_nat C Y (by omega) (by omega)]
  omega
theorem belowD (w : World) (n : Nat) : Below w.heap.size w (w.drewN n) := ⟨rfl, rfl, rfl, Nat.le_refl _, fun _ _ => rfl⟩
theorem str_app77 (l : List Int) : strOfNums (l ++ [77]) = strOfNums l ++ ⟨#[77]⟩ := by
  apply ByteArray.ext
  simp [strOfNums]
/-- the three rows of bytes, and the row of them -/
structure Tri (wA w : World) (ra g7 c7 g8 c8 g9 c9 : Nat) (l R R' : List Int) : Prop where
  a : OwnB w g7 c7 l
  b : OwnB w g8 c8 R
  c : OwnB w g9 c9 R'
  row : w.heap[ra]? = some (.cells #[.slice (some ⟨g7, 0, none⟩) l.length c7, .slice (some ⟨g8, 0, none⟩) R.length c8, .slice (some ⟨g9, 0, none⟩) R.length c9] 25 (0, 0))
  bel : Below wA.heap.size wA w
theorem Tri.set {wA w : World} {ra g7 c7 g8 c8 g9 c9 k : Nat} {l R R' : List Int} {v : Int} (h : Tri wA w ra g7 c7 g8 c8 g9 c9 l R R') (hk : k < R'.length) (hv : 0 ≤ v ∧ v < 256) (n7 : g7 ≠ g9) (n8 : g8 ≠ g9) (nr : ra ≠ g9) (hA : wA.heap.size ≤ g9) : Tri wA (w.setCell ⟨g9, k, none⟩ (.int .u8 v)).drew ra g7 c7 g8 c8 g9 c9 l R (R'.set k v) := by
  have f : Fr (fun i => i = g9) w (w.setCell ⟨g9, k, none⟩ (.int .u8 v)) := Fr.set
  have d : Below (w.setCell ⟨g9, k, none⟩ (.int .u8 v)).heap.size (w.setCell ⟨g9, k, none⟩ (.int .u8 v)) (w.setCell ⟨g9, k, none⟩ (.int .u8 v)).drew := (Below.refl _ _).drew
  exact ⟨(h.a.fr f n7).on d, (h.b.fr f n8).on d, (h.c.set k v hk hv).on d, f.heap h.row nr, (h.bel.setCell hA _).drew⟩
set_option maxRecDepth 100000 in
set_option maxHeartbeats 8000000 in
theorem ibytes_any (w : World) (x : Nat → Int) (hx : ∀ i, -9223372036854775808 ≤ x i ∧ x i ≤ 9223372036854775807) (a : Option Addr) (n c : Nat) (l : List Int) (hB : Bytes w a l) (hn : l.length = n) (hz : a = none → c = 0) (h47 : n ≤ 140737488351232) (t0 t1 : Int) (hT : TabAt w) :
    Calls Tryd.prog 3 #[inV x, .slice a n c, .agg #[.int .i64 t0, .int .i64 t1]] w fun e w' => e = .returned (.bool true) ∧ Below w.heap.size w w' := by
  have HT : Hid (TabAt w) := hT
  have HB : Hid (Bytes w a l ∧ l.length = n ∧ (a = none → c = 0)) := ⟨hB, hn, hz⟩
  have hRl := encR_len x
  obtain ⟨R, hR⟩ : ∃ R, encR x = R := ⟨_, rfl⟩
  obtain ⟨F, hF⟩ : ∃ F, encF x = F := ⟨_, rfl⟩
  have HEp : Hid (∀ wx, Below w.heap.size w wx → Calls Tryd.prog 6 #[.agg #[.int .i64 (x 0), .int .i64 (x 1), .int .i64 (x 2), .int .i64 (x 3), .int .i64 (x 4), .int .i64 (x 5), .int .i64 (x 6), .int .i64 (x 7), .int .i64 (x 8), .int .i64 (x 9), .int .i64 (x 10), .int .i64 (x 11), .int .i64 (x 12), .int .i64 (x 13), .int .i64 (x 14)]] wx fun e w' => ∃ a cap, e = .returned (.tuple #[.slice a R.length cap, .int .i64 F]) ∧ RwU wx.heap.size w' a cap R ∧ Below wx.heap.size wx w') := fun wx hb => by rw [← hR, ← hF]; exact encU wx x hx (hT.on hb)
  have HEr : Hid (∀ wx, Calls Tryd.prog 5 #[.agg #[.int .i64 (x 0), .int .i64 (x 1), .int .i64 (x 2), .int .i64 (x 3), .int .i64 (x 4), .int .i64 (x 5), .int .i64 (x 6), .int .i64 (x 7), .int .i64 (x 8), .int .i64 (x 9), .int .i64 (x 10), .int .i64 (x 11), .int .i64 (x 12), .int .i64 (x 13), .int .i64 (x 14)]] wx fun e w' => ∃ a cap, e = .returned (.tuple #[.slice a R.length cap, .int .i64 F]) ∧ RwU wx.heap.size w' a cap R ∧ Below wx.heap.size wx w') := fun wx => by rw [← hR, ← hF]; exact rencU wx x hx
  have HRl : Hid (R.length = 64 ∨ R = []) := by
    rw [← hR]
    rcases hRl with h | h
    · exact .inl h.1
    · exact .inr h.1
  have hR64 : R.length ≤ 64 := by rcases HRl.out with h | h <;> simp [h]
  clear hB hn hz hRl hR hF
  show Calls Tryd.prog 3 #[.agg #[.int .i64 (x 0), .int .i64 (x 1), .int .i64 (x 2), .int .i64 (x 3), .int .i64 (x 4), .int .i64 (x 5), .int .i64 (x 6), .int .i64 (x 7), .int .i64 (x 8), .int .i64 (x 9), .int .i64 (x 10), .int .i64 (x 11), .int .i64 (x 12), .int .i64 (x 13), .int .i64 (x 14)], .slice a n c, .agg #[.int .i64 t0, .int .i64 t1]] w _
  have HJ : Hid (∀ wx, Below w.heap.size w wx → Calls Tryd.prog 4 #[] wx fun e w' => e = .returned (.bool true) ∧ Below wx.heap.size wx w') := fun wx hb => jfixed_any wx (hT.on hb)
  clear hT
  go_enter Tryd.func3, Tryd.ntmps3
  go_upto_region 1 with fail
  obtain ⟨wA, hwA⟩ : ∃ wA, (w.alloc (.cells #[.int .i64 (x 0), .int .i64 (x 1), .int .i64 (x 2), .int .i64 (x 3), .int .i64 (x 4), .int .i64 (x 5), .int .i64 (x 6), .int .i64 (x 7), .int .i64 (x 8), .int .i64 (x 9), .int .i64 (x 10), .int .i64 (x 11), .int .i64 (x 12), .int .i64 (x 13), .int .i64 (x 14)] 24)).alloc (.cells #[.int .i64 t0, .int .i64 t1] 26) = wA := ⟨_, rfl⟩
  obtain ⟨P0, hP0⟩ : ∃ P0, w.heap.size = P0 := ⟨_, rfl⟩
  have HA : Hid (Below w.heap.size w wA ∧ wA.heap[P0]? = some (.cells (inC x) 24 (0, 0)) ∧ wA.heap[P0 + 1]? = some (.cells #[.int .i64 t0, .int .i64 t1] 26 (0, 0))) := by
    rw [← hP0]
    have b1 : Below w.heap.size w (w.alloc (.cells #[.int .i64 (x 0), .int .i64 (x 1), .int .i64 (x 2), .int .i64 (x 3), .int .i64 (x 4), .int .i64 (x 5), .int .i64 (x 6), .int .i64 (x 7), .int .i64 (x 8), .int .i64 (x 9), .int .i64 (x 10), .int .i64 (x 11), .int .i64 (x 12), .int .i64 (x 13), .int .i64 (x 14)] 24)) := (Below.refl _ _).alloc (Nat.le_refl _) _
    have b2 : Below (w.alloc (.cells #[.int .i64 (x 0), .int .i64 (x 1), .int .i64 (x 2), .int .i64 (x 3), .int .i64 (x 4), .int .i64 (x 5), .int .i64 (x 6), .int .i64 (x 7), .int .i64 (x 8), .int .i64 (x 9), .int .i64 (x 10), .int .i64 (x 11), .int .i64 (x 12), .int .i64 (x 13), .int .i64 (x 14)] 24)).heap.size (w.alloc (.cells #[.int .i64 (x 0), .int .i64 (x 1), .int .i64 (x 2), .int .i64 (x 3), .int .i64 (x 4), .int .i64 (x 5), .int .i64 (x 6), .int .i64 (x 7), .int .i64 (x 8), .int .i64 (x 9), .int .i64 (x 10), .int .i64 (x 11), .int .i64 (x 12), .int .i64 (x 13), .int .i64 (x 14)] 24)) wA := by rw [← hwA]; exact (Below.refl _ _).alloc (Nat.le_refl _) _
    have hs : (w.alloc (.cells #[.int .i64 (x 0), .int .i64 (x 1), .int .i64 (x 2), .int .i64 (x 3), .int .i64 (x 4), .int .i64 (x 5), .int .i64 (x 6), .int .i64 (x 7), .int .i64 (x 8), .int .i64 (x 9), .int .i64 (x 10), .int .i64 (x 11), .int .i64 (x 12), .int .i64 (x 13), .int .i64 (x 14)] 24)).heap.size = w.heap.size + 1 := by simp
    refine ⟨b1.trans (b2.mono b1.size), (b2.block _ (by omega)).trans (heap_alloc_new w _), ?_⟩
    rw [← hwA, ← hs]
    exact heap_alloc_new _ _
  rw [hwA, hP0]
  clear hwA hP0
  have HX : Hid (∀ wx, Below wA.heap.size wA wx → wx.heap[P0]? = some (.cells (inC x) 24 (0, 0)) ∧ wx.heap[P0 + 1]? = some (.cells #[.int .i64 t0, .int .i64 t1] 26 (0, 0)) ∧ Below w.heap.size w wx) := fun wx hb => ⟨(hb.block _ (heap_lt HA.out.2.1)).trans HA.out.2.1, (hb.block _ (heap_lt HA.out.2.2)).trans HA.out.2.2, HA.out.1.trans (hb.mono HA.out.1.size)⟩
  have K0 : Hid True := trivial
  go_upto_region 6 with (first
    | (go_at_call 4; refine (HJ.out _ HA.out.1).mono ?_; rintro e w1 ⟨rfl, hb1⟩
       have H1 : Hid (Below wA.heap.size wA w1) := hb1
       have hz := (HX.out w1 H1.out).1
       have x0 : w1.cell? ⟨P0, 0, none⟩ = some (.int .i64 (x 0)) := box15 hz 0 (by omega); have x1 : w1.cell? ⟨P0, 1, none⟩ = some (.int .i64 (x 1)) := box15 hz 1 (by omega); have x2 : w1.cell? ⟨P0, 2, none⟩ = some (.int .i64 (x 2)) := box15 hz 2 (by omega); have x3 : w1.cell? ⟨P0, 3, none⟩ = some (.int .i64 (x 3)) := box15 hz 3 (by omega); have x4 : w1.cell? ⟨P0, 4, none⟩ = some (.int .i64 (x 4)) := box15 hz 4 (by omega); have x5 : w1.cell? ⟨P0, 5, none⟩ = some (.int .i64 (x 5)) := box15 hz 5 (by omega); have x6 : w1.cell? ⟨P0, 6, none⟩ = some (.int .i64 (x 6)) := box15 hz 6 (by omega); have x7 : w1.cell? ⟨P0, 7, none⟩ = some (.int .i64 (x 7)) := box15 hz 7 (by omega); have x8 : w1.cell? ⟨P0, 8, none⟩ = some (.int .i64 (x 8)) := box15 hz 8 (by omega); have x9 : w1.cell? ⟨P0, 9, none⟩ = some (.int .i64 (x 9)) := box15 hz 9 (by omega); have x10 : w1.cell? ⟨P0, 10, none⟩ = some (.int .i64 (x 10)) := box15 hz 10 (by omega); have x11 : w1.cell? ⟨P0, 11, none⟩ = some (.int .i64 (x 11)) := box15 hz 11 (by omega); have x12 : w1.cell? ⟨P0, 12, none⟩ = some (.int .i64 (x 12)) := box15 hz 12 (by omega); have x13 : w1.cell? ⟨P0, 13, none⟩ = some (.int .i64 (x 13)) := box15 hz 13 (by omega); have x14 : w1.cell? ⟨P0, 14, none⟩ = some (.int .i64 (x 14)) := box15 hz 14 (by omega)
       clear hb1 hz)
    | (go_at_call 5; refine (HEr.out _).mono ?_; rintro e w2 ⟨a2, c2, rfl, hr2, hb2⟩
       have H2 : Hid (Below wA.heap.size wA w2 ∧ RwU w1.heap.size w2 a2 c2 R) := ⟨H1.out.trans (hb2.mono H1.out.size), hr2⟩
       clear x0 x1 x2 x3 x4 x5 x6 x7 x8 x9 x10 x11 x12 x13 x14
       have hz := (HX.out w2 H2.out.1).1
       have x0 : w2.cell? ⟨P0, 0, none⟩ = some (.int .i64 (x 0)) := box15 hz 0 (by omega); have x1 : w2.cell? ⟨P0, 1, none⟩ = some (.int .i64 (x 1)) := box15 hz 1 (by omega); have x2 : w2.cell? ⟨P0, 2, none⟩ = some (.int .i64 (x 2)) := box15 hz 2 (by omega); have x3 : w2.cell? ⟨P0, 3, none⟩ = some (.int .i64 (x 3)) := box15 hz 3 (by omega); have x4 : w2.cell? ⟨P0, 4, none⟩ = some (.int .i64 (x 4)) := box15 hz 4 (by omega); have x5 : w2.cell? ⟨P0, 5, none⟩ = some (.int .i64 (x 5)) := box15 hz 5 (by omega); have x6 : w2.cell? ⟨P0, 6, none⟩ = some (.int .i64 (x 6)) := box15 hz 6 (by omega); have x7 : w2.cell? ⟨P0, 7, none⟩ = some (.int .i64 (x 7)) := box15 hz 7 (by omega); have x8 : w2.cell? ⟨P0, 8, none⟩ = some (.int .i64 (x 8)) := box15 hz 8 (by omega); have x9 : w2.cell? ⟨P0, 9, none⟩ = some (.int .i64 (x 9)) := box15 hz 9 (by omega); have x10 : w2.cell? ⟨P0, 10, none⟩ = some (.int .i64 (x 10)) := box15 hz 10 (by omega); have x11 : w2.cell? ⟨P0, 11, none⟩ = some (.int .i64 (x 11)) := box15 hz 11 (by omega); have x12 : w2.cell? ⟨P0, 12, none⟩ = some (.int .i64 (x 12)) := box15 hz 12 (by omega); have x13 : w2.cell? ⟨P0, 13, none⟩ = some (.int .i64 (x 13)) := box15 hz 13 (by omega); have x14 : w2.cell? ⟨P0, 14, none⟩ = some (.int .i64 (x 14)) := box15 hz 14 (by omega)
       clear hb2 hr2 hz)
    | (go_at_call 6; have hh := K0.out; clear hh; refine (HEp.out _ (HX.out _ H2.out.1).2.2).mono ?_; rintro e w3 ⟨a3, c3, rfl, hr3, hb3⟩
       have H3 : Hid (Below wA.heap.size wA w3 ∧ RwU w2.heap.size w3 a3 c3 R ∧ RwU w1.heap.size w3 a2 c2 R) := ⟨H2.out.1.trans (hb3.mono H2.out.1.size), hr3, H2.out.2.on hb3⟩
       clear x0 x1 x2 x3 x4 x5 x6 x7 x8 x9 x10 x11 x12 x13 x14
       have hz := (HX.out w3 H3.out.1).1
       have x0 : w3.cell? ⟨P0, 0, none⟩ = some (.int .i64 (x 0)) := box15 hz 0 (by omega); have x1 : w3.cell? ⟨P0, 1, none⟩ = some (.int .i64 (x 1)) := box15 hz 1 (by omega); have x2 : w3.cell? ⟨P0, 2, none⟩ = some (.int .i64 (x 2)) := box15 hz 2 (by omega); have x3 : w3.cell? ⟨P0, 3, none⟩ = some (.int .i64 (x 3)) := box15 hz 3 (by omega); have x4 : w3.cell? ⟨P0, 4, none⟩ = some (.int .i64 (x 4)) := box15 hz 4 (by omega); have x5 : w3.cell? ⟨P0, 5, none⟩ = some (.int .i64 (x 5)) := box15 hz 5 (by omega); have x6 : w3.cell? ⟨P0, 6, none⟩ = some (.int .i64 (x 6)) := box15 hz 6 (by omega); have x7 : w3.cell? ⟨P0, 7, none⟩ = some (.int .i64 (x 7)) := box15 hz 7 (by omega); have x8 : w3.cell? ⟨P0, 8, none⟩ = some (.int .i64 (x 8)) := box15 hz 8 (by omega); have x9 : w3.cell? ⟨P0, 9, none⟩ = some (.int .i64 (x 9)) := box15 hz 9 (by omega); have x10 : w3.cell? ⟨P0, 10, none⟩ = some (.int .i64 (x 10)) := box15 hz 10 (by omega); have x11 : w3.cell? ⟨P0, 11, none⟩ = some (.int .i64 (x 11)) := box15 hz 11 (by omega); have x12 : w3.cell? ⟨P0, 12, none⟩ = some (.int .i64 (x 12)) := box15 hz 12 (by omega); have x13 : w3.cell? ⟨P0, 13, none⟩ = some (.int .i64 (x 13)) := box15 hz 13 (by omega); have x14 : w3.cell? ⟨P0, 14, none⟩ = some (.int .i64 (x 14)) := box15 hz 14 (by omega)
       clear hb3 hr3 hz K0)
    | (go_at_call 6; refine (HEp.out _ (HX.out _ H3.out.1).2.2).mono ?_; rintro e w4 ⟨a4, c4, rfl, hr4, hb4⟩
       have H4 : Hid (Below wA.heap.size wA w4 ∧ RwU w3.heap.size w4 a4 c4 R ∧ RwU w2.heap.size w4 a3 c3 R ∧ RwU w1.heap.size w4 a2 c2 R ∧ Below w3.heap.size w3 w4) := ⟨H3.out.1.trans (hb4.mono H3.out.1.size), hr4, H3.out.2.1.on hb4, H3.out.2.2.on hb4, hb4⟩
       clear x0 x1 x2 x3 x4 x5 x6 x7 x8 x9 x10 x11 x12 x13 x14 hb4 hr4))
  have cv2 : (convert 25 9 (.slice a2 R.length c2)).run Tryd.prog w4 = .ok (.string (strOfNums R)) w4 := str_opt H4.out.2.2.2.1.bytes rfl
  have cv3 : (convert 25 9 (.slice a3 R.length c3)).run Tryd.prog w4 = .ok (.string (strOfNums R)) w4 := str_opt H4.out.2.2.1.bytes rfl
  have cv4 : (convert 25 9 (.slice a4 R.length c4)).run Tryd.prog w4 = .ok (.string (strOfNums R)) w4 := str_opt H4.out.2.1.bytes rfl
  obtain ⟨SR, hSR⟩ : ∃ SR, strOfNums R = SR := ⟨_, rfl⟩
  rw [hSR] at cv2 cv3 cv4
  go_upto_region 8 with fail
  clear cv2 cv3 cv4
  go_upto_block 0 with fail
  go_cut [] (fun wx => ∃ Y : List Int, Y.length = R.length ∧ RwU w3.heap.size wx a4 c4 Y ∧ Below w3.heap.size w3 wx)
  case first => as_aux_lemma =>
    go_wp2
    go_loopw [13] (fun s13 wr => ∃ (k : Nat) (Y : List Int), s13 = .int .i64 (k : Int) ∧ k ≤ R.length ∧ Y.length = R.length ∧ RwU w3.heap.size wr a4 c4 Y ∧ Below w3.heap.size w3 wr) (fun s13 _ => R.length - (intOf s13).toNat)
    case atStart => exact ⟨0, R, rfl, Nat.zero_le _, rfl, H4.out.2.1, H4.out.2.2.2.2⟩
    case round =>
      obtain ⟨k, Y, rfl, hk, hY, hI⟩ := hrel
      have HI : Hid (RwU w3.heap.size wr a4 c4 Y ∧ Below w3.heap.size w3 wr) := hI
      clear hI
      by_cases hlt : k < R.length
      · have hlt' : (k : Int) < (R.length : Int) := by omega
        have hk64 : (k : Int) < 64 := by omega
        obtain ⟨g, rfl, hO, hg⟩ : ∃ g, a4 = some ⟨g, 0, none⟩ ∧ OwnB wr g c4 Y ∧ w3.heap.size ≤ g := by
          rcases HI.out.1 with ⟨e, _⟩ | h
          · rw [e] at hY; simp at hY; omega
          · exact h
        have e0 := hO.cell k (by omega)
        have e1 := hO.frozen k
        have HO : Hid (OwnB wr g c4 Y) := hO
        clear hO
        go_wp2
        go_round
        case rel => exact ⟨k + 1, Y.set k 99, by go_num, by omega, by rw [List.length_set]; exact hY, .inr ⟨g, rfl, HO.out.set k 99 (by omega) (by decide), hg⟩, HI.out.2.setCell hg _⟩
        case measure => simp [intOf]; omega
      · have hlt' : ¬ (k : Int) < (R.length : Int) := by omega
        go_wp2
        go_meet
        case rel => exact ⟨Y, hY, HI.out⟩
  case rest =>
  obtain ⟨Y, hY, hcut⟩ := hcut
  obtain ⟨w5, hw5⟩ : ∃ w5, wc = w5 := ⟨_, rfl⟩
  rw [hw5] at hcut ⊢
  have H5 : Hid (RwU w3.heap.size w5 a4 c4 Y ∧ Below w3.heap.size w3 w5) := hcut
  have HO5 : Hid (w5.ownsRow 0 5 1 (.slice a4 R.length c4) R.length (Y.map (Value.int .u8))) := by have h := hcut.1.owns; rw [hY] at h; exact h
  clear hcut hw5
  obtain ⟨i0, hi0, hi1, hi2, hi3⟩ := info_parts info5
  have ha5 : Below w5.heap.size w5 (w5.alloc (.cells #[.int .u8 99] 5)) := (Below.refl _ _).alloc (Nat.le_refl _) _
  go_upto_region 13 with (at_builtin; refine wp_own rfl (.tmp 71) (.tmp 72) 25 rfl 5 i0 _ 1 1 Tryd.underlying25 hi0 hi1 hi2 hi3 rfl (by decide) (.slice a4 R.length c4) R.length (Y.map (Value.int .u8)) rfl (owns_fr HO5.out (below_fr ha5 (fun _ => False)) (fun _ _ e => e)) ⟨w5.heap.size, 0, none⟩ 1 1 [.int .u8 99] rfl (by decide) rfl (fun j u hj => by match j, hj with | 0, hj => cases hj; rw [Addr.add_lit, cell_of_row _ _ _ _ _ _ (heap_alloc_new w5 _)]; rfl) (by intro u hu; simp at hu; rw [hu]; rfl) (by unfold maxLen; omega) (by omega) ?_
                          intro g6 c6 w6 h1 h2 h3
                          have H6 : Hid (Below w3.heap.size w3 w6) := (by
                            have hs := H5.out.2.size
                            refine (H5.out.2.trans (ha5.mono hs)).trans (h2.below _ (fun b e => ?_) (Nat.le_trans hs ha5.size))
                            rcases H5.out.1 with ⟨_, e2, _⟩ | ⟨g, e2, _, hg⟩
                            · rw [e2] at e; cases e
                            · rw [e2] at e; cases e; exact hg)
                          clear h1 h2 h3 ha5)
  have cv2 : (convert 25 9 (.slice a2 R.length c2)).run Tryd.prog w6 = .ok (.string SR) w6 := by rw [← hSR]; exact str_opt (H3.out.2.2.on H6.out).bytes rfl
  have cv3 : (convert 25 9 (.slice a3 R.length c3)).run Tryd.prog w6 = .ok (.string SR) w6 := by rw [← hSR]; exact str_opt (H3.out.2.1.on H6.out).bytes rfl
  go_upto_region 15 with fail
  clear cv2 cv3 HO5 H5 hSR
  have H7 : Hid (RwU w1.heap.size w6 a2 c2 R ∧ Below wA.heap.size wA w6) := ⟨H3.out.2.2.on H6.out, H3.out.1.trans (H6.out.mono H3.out.1.size)⟩
  clear H6 H4 H3 H2 H1
  have K1 : Hid True := trivial
  have K2 : Hid True := trivial
  have HB7 : Hid (∀ wx, Below w6.heap.size w6 wx → Bytes wx a l ∧ Bytes wx a2 R) := fun wx hb => ⟨HB.out.1.on (HX.out wx (H7.out.2.trans (hb.mono H7.out.2.size))).2.2, (H7.out.1.on hb).bytes⟩
  go_upto_region 16 with (first
    | (at_builtin; have hh := K1.out; clear hh; refine wp_bcopyI (w7 := w6) rfl (.tmp 87) (.tmp 88) rfl w6.heap.size rfl rfl a n c l rfl HB.out.2.1 (HB7.out _ (Below.refl _ _)).1 HB.out.2.2 (by omega) ?_
       intro g7 c7 w7 h1 h2 h3 h4
       have H8 : Hid (OwnB w7 g7 c7 l ∧ Below w6.heap.size w6 w7 ∧ w6.heap.size ≤ g7) := ⟨h1, h2, h3⟩
       clear h1 h2 h3 h4 K1)
    | (at_builtin; have hh := K2.out; clear hh; refine wp_bcopyI (w7 := w7) rfl (.tmp 90) (.tmp 91) rfl w7.heap.size rfl rfl a2 R.length c2 R rfl rfl (HB7.out _ H8.out.2.1).2 H7.out.1.cap.2 (by omega) ?_
       intro g8 c8 w8 h1 h2 h3 h4
       have H9 : Hid (OwnB w8 g7 c7 l ∧ OwnB w8 g8 c8 R ∧ Below w6.heap.size w6 w8 ∧ g7 < g8) := ⟨H8.out.1.on h2, h1, H8.out.2.1.trans (h2.mono H8.out.2.1.size), Nat.lt_of_lt_of_le H8.out.1.lt h3⟩
       clear h1 h2 h3 h4 K2)
    | (at_builtin; refine wp_bcopyI (w7 := w8) rfl (.tmp 93) (.tmp 94) rfl w8.heap.size rfl rfl a2 R.length c2 R rfl rfl (HB7.out _ H9.out.2.2.1).2 H7.out.1.cap.2 (by omega) ?_
       intro g9 c9 w9 h1 h2 h3 h4
       have H10 : Hid (OwnB w9 g7 c7 l ∧ OwnB w9 g8 c8 R ∧ OwnB w9 g9 c9 R ∧ Below w6.heap.size w6 w9 ∧ g7 < g8 ∧ g8 < g9) := ⟨H9.out.1.on h2, H9.out.2.1.on h2, h1, H9.out.2.2.1.trans (h2.mono H9.out.2.2.1.size), H9.out.2.2.2, Nat.lt_of_lt_of_le H9.out.2.1.lt h3⟩
       clear h1 h2 h3 h4))
  obtain ⟨ra, hra⟩ : ∃ ra, w9.heap.size = ra := ⟨_, rfl⟩
  obtain ⟨wB, hwB⟩ : ∃ wB, w9.alloc (.cells #[.slice (some ⟨g7, 0, none⟩) n c7, .slice (some ⟨g8, 0, none⟩) R.length c8, .slice (some ⟨g9, 0, none⟩) R.length c9] 25) = wB := ⟨_, rfl⟩
  have H11 : Hid (Tri wA wB ra g7 c7 g8 c8 g9 c9 l R R ∧ w6.heap.size ≤ wB.heap.size ∧ g7 < g8 ∧ g8 < g9 ∧ g9 < ra ∧ wA.heap.size ≤ g7) := by
    have ha : Below w9.heap.size w9 wB := by rw [← hwB]; exact (Below.refl _ _).alloc (Nat.le_refl _) _
    have h1 := H10.out.2.2.2.1
    have h2 := H7.out.2
    refine ⟨⟨H10.out.1.on ha, H10.out.2.1.on ha, H10.out.2.2.1.on ha, ?_, (h2.trans (h1.mono h2.size)).trans (ha.mono (Nat.le_trans h2.size h1.size))⟩, Nat.le_trans h1.size ha.size, H10.out.2.2.2.2.1, H10.out.2.2.2.2.2, by rw [← hra]; exact H10.out.2.2.1.lt, Nat.le_trans h2.size H8.out.2.2⟩
    rw [← hwB, ← hra, HB.out.2.1]; exact heap_alloc_new _ _
  rw [hwB, hra]
  clear hwB hra H10 H9 HB7
  go_upto_if 99 with fail
  go_cut [16] (fun _ wx => ∃ R' : List Int, R'.length = R.length ∧ Tri wA wx ra g7 c7 g8 c8 g9 c9 l R R')
  case first => as_aux_lemma =>
    by_cases h64 : R.length = 64
    · have hM : Hid (Calls Tryd.prog 7 #[.int .i64 t0, .int .i64 64] wB fun e w' => e = .returned (.int .i64 (t0 % 64)) ∧ wB = w') := imod_any wB t0 64 (by omega) (by omega)
      have hP1 := (HX.out wB H11.out.1.bel).2.1
      have y0 : wB.cell? ⟨P0 + 1, 0, none⟩ = some (.int .i64 t0) := cell_of_row _ _ 0 _ _ _ hP1
      have y1 : wB.cell? ⟨P0 + 1, 1, none⟩ = some (.int .i64 t1) := cell_of_row _ _ 1 _ _ _ hP1
      obtain ⟨k, hk, hk64⟩ : ∃ k : Nat, t0 % 64 = (k : Int) ∧ k < 64 := ⟨(t0 % 64).toNat, by omega, by omega⟩
      rw [hk] at hM
      have y2 : wB.cell? ⟨ra, 2, none⟩ = some (.slice (some ⟨g9, 0, none⟩) R.length c9) := cell_of_row _ _ 2 _ _ _ H11.out.1.row
      have y3 := H11.out.1.c.cell k (by omega)
      have y4 := H11.out.1.c.frozen k
      have hcb := H11.out.1.c.wf k
      obtain ⟨cc, hcc⟩ : ∃ cc, nth R k = cc := ⟨_, rfl⟩
      rw [hcc] at y3 hcb
      have HFl : Hid (0 ≤ bits .xor .u8 cc (t1 % 256) ∧ bits .xor .u8 cc (t1 % 256) < 256) := xor_bd cc (t1 % 256) hcb (by omega)
      clear hP1 hcc hk
      have HRk : Hid (k < 64 ∧ 64 = R.length) := ⟨hk64, h64.symm⟩
      have hkR : (k : Int) < (R.length : Int) := by omega
      have h64' : (R.length : Int) = 64 := by omega
      clear h64
      go_upto_region 18 with (go_at_call 7; refine hM.out.mono ?_; rintro e w' ⟨rfl, rfl⟩)
      go_region
      obtain ⟨v, hv⟩ : ∃ v, bits .xor .u8 cc (t1 % 256) = v := ⟨_, rfl⟩
      rw [hv] at HFl ⊢
      have HTr : Hid (Tri wA (wB.setCell ⟨g9, k, none⟩ (.int .u8 v)).drew ra g7 c7 g8 c8 g9 c9 l R (R.set k v)) := H11.out.1.set (by rw [← HRk.out.2]; omega) HFl.out (by have := H11.out.2; omega) (by have := H11.out.2; omega) (by have := H11.out.2; omega) (by have := H11.out.2; omega)
      clear y0 y1 y2 y3 y4
      go_wp2
      go_meet
      case rel => exact ⟨R.set k v, by rw [List.length_set], HTr.out⟩
    · have h64' : ¬ (R.length : Int) = 64 := by omega
      go_wp2
      go_meet
      case rel => exact ⟨R, rfl, H11.out.1⟩
  case rest =>
  obtain ⟨R', hR', hcut⟩ := hcut
  obtain ⟨wC, hwC⟩ : ∃ wC, wc = wC := ⟨_, rfl⟩
  rw [hwC] at hcut ⊢
  have HTr : Hid (Tri wA wC ra g7 c7 g8 c8 g9 c9 l R R') := hcut
  have HR' : Hid (R'.length = R.length) := hR'
  clear hcut hwC hR' H11
  have hl47 : l.length ≤ 140737488351232 := by rw [HB.out.2.1]; exact h47
  have HK : Hid (∀ k, k < 3 → ∃ (gi ci : Nat) (Li : List Int), Li.length ≤ ci ∧ Li.length ≤ 140737488351232 ∧ ∀ wx, Below wC.heap.size wC wx → wx.cell? ⟨ra, k, none⟩ = some (.slice (some ⟨gi, 0, none⟩) Li.length ci) ∧ Bytes wx (some ⟨gi, 0, none⟩) Li) := fun k hk => by
    have hrow : ∀ wx, Below wC.heap.size wC wx → wx.heap[ra]? = _ := fun wx hb => (hb.block _ (heap_lt HTr.out.row)).trans HTr.out.row
    match k, hk with
    | 0, _ => exact ⟨g7, c7, l, HTr.out.a.room, hl47, fun wx hb => ⟨cell_of_row _ _ 0 _ _ _ (hrow wx hb), (HTr.out.a.on hb).bytes⟩⟩
    | 1, _ => exact ⟨g8, c8, R, HTr.out.b.room, by omega, fun wx hb => ⟨cell_of_row _ _ 1 _ _ _ (hrow wx hb), (HTr.out.b.on hb).bytes⟩⟩
    | 2, _ => exact ⟨g9, c9, R', HTr.out.c.room, by rw [HR'.out]; omega, fun wx hb => ⟨by rw [HR'.out]; exact cell_of_row _ _ 2 _ _ _ (hrow wx hb), (HTr.out.c.on hb).bytes⟩⟩
  have HBw : Hid (∀ wx, Below wC.heap.size wC wx → Below w.heap.size w wx) := fun wx hb => (HX.out wx (HTr.out.bel.trans (hb.mono HTr.out.bel.size))).2.2
  go_wp2
  go_loopw [17] (fun s17 wr => ∃ k : Nat, s17 = .int .i64 (k : Int) ∧ k ≤ 3 ∧ Below wC.heap.size wC wr) (fun s17 _ => 3 - (intOf s17).toNat)
  case atStart => exact ⟨0, rfl, by omega, Below.refl _ _⟩
  case round =>
    obtain ⟨k, rfl, hk, hI⟩ := hrel
    have HI : Hid (Below wC.heap.size wC wr) := hI
    clear hI
    by_cases hlt : k < 3
    · have hlt' : (k : Int) < 3 := by omega
      obtain ⟨gi, ci, Li, hLc, hL47, hK⟩ := HK.out k hlt
      have HKi : Hid (∀ wx, Below wC.heap.size wC wx → wx.cell? ⟨ra, k, none⟩ = some (.slice (some ⟨gi, 0, none⟩) Li.length ci) ∧ Bytes wx (some ⟨gi, 0, none⟩) Li) := hK
      clear hK
      have x1 := (HKi.out wr HI.out).1
      have ha0 : Below wr.heap.size wr (wr.alloc (.cells #[] 5)) := (Below.refl _ _).alloc (Nat.le_refl _) _
      have x2 := (HKi.out _ (HI.out.trans (ha0.mono HI.out.size))).1
      have K3 : Hid True := trivial
      go_upto_region 23 with (first
        | (at_builtin; have hh := K3.out; clear hh; refine wp_bcopyI (w7 := wr) rfl (.tmp 124) (.tmp 128) rfl wr.heap.size rfl rfl (some ⟨gi, 0, none⟩) Li.length ci Li rfl rfl (HKi.out wr HI.out).2 (fun e => by cases e) (by omega) ?_
           intro g1 d1 v1 h1 h2 h3 h4
           have G1 : Hid (OwnB v1 g1 d1 Li ∧ Below wr.heap.size wr v1 ∧ wr.heap.size ≤ g1) := ⟨h1, h2, h3⟩
           clear h1 h2 h3 h4 K3)
        | (at_builtin; refine wp_app rfl (.tmp 129) (.tmp 130) rfl wr.heap.size g1 Li.length d1 Li [77] rfl rfl (G1.out.1.on ((Below.refl _ _).alloc (Nat.le_refl _) _)) G1.out.2.2 (Nat.le_trans G1.out.2.1.size (by simp)) (some ⟨v1.heap.size, 0, none⟩) 1 1 rfl rfl ⟨by simp, wf_list (by decide), .inr ⟨_, 0, rfl, fun i hi => by rw [cell_of_row _ _ _ _ _ _ (heap_alloc_new v1 _)]; match i, hi with | 0, _ => rfl⟩⟩ (fun e => by cases e) (by omega) ?_
           intro g2 d2 v2 hg ho hgr
           have G2 : Hid (OwnB v2 g2 d2 (Li ++ [77]) ∧ Below wC.heap.size wC v2) := (by
             have hb : Below wr.heap.size wr v2 := (G1.out.2.1.alloc G1.out.2.1.size _).trans (below_of hgr G1.out.2.2 (Nat.le_trans G1.out.2.1.size (by simp)))
             exact ⟨ho, HI.out.trans (hb.mono HI.out.size)⟩)
           clear hg ho hgr))
      have z1 := (HKi.out v2 G2.out.2).1
      have hcap : Li.length + 1 ≤ d2 := by have := G2.out.1.room; simpa using this
      have hcap' : Li.length ≤ d2 := by omega
      have HDr : Hid (Calls Tryd.prog 8 #[.slice (some ⟨gi, 0, none⟩) Li.length ci] v2 fun e w' => e = .returned (.tuple #[.agg #[.int .i64 ((decX Li) 0), .int .i64 ((decX Li) 1), .int .i64 ((decX Li) 2), .int .i64 ((decX Li) 3), .int .i64 ((decX Li) 4), .int .i64 ((decX Li) 5), .int .i64 ((decX Li) 6), .int .i64 ((decX Li) 7), .int .i64 ((decX Li) 8), .int .i64 ((decX Li) 9), .int .i64 ((decX Li) 10), .int .i64 ((decX Li) 11), .int .i64 ((decX Li) 12), .int .i64 ((decX Li) 13), .int .i64 ((decX Li) 14)], .int .i64 (decE Li)]) ∧ Below v2.heap.size v2 w') := rdec_any v2 (some ⟨gi, 0, none⟩) Li.length ci Li rfl (HKi.out v2 G2.out.2).2 hLc
      have HDp : Hid (∀ wx, Below v2.heap.size v2 wx → Calls Tryd.prog 9 #[.slice (some ⟨g2, 0, none⟩) Li.length d2] wx fun e w' => e = .returned (.tuple #[.agg #[.int .i64 ((decX Li) 0), .int .i64 ((decX Li) 1), .int .i64 ((decX Li) 2), .int .i64 ((decX Li) 3), .int .i64 ((decX Li) 4), .int .i64 ((decX Li) 5), .int .i64 ((decX Li) 6), .int .i64 ((decX Li) 7), .int .i64 ((decX Li) 8), .int .i64 ((decX Li) 9), .int .i64 ((decX Li) 10), .int .i64 ((decX Li) 11), .int .i64 ((decX Li) 12), .int .i64 ((decX Li) 13), .int .i64 ((decX Li) 14)], .int .i64 (decE Li)]) ∧ Below wx.heap.size wx w') := fun wx hb => by
        have h1 := ((G2.out.1.on hb).bytes).take Li.length
        rw [List.take_left] at h1
        exact dec_any wx (some ⟨g2, 0, none⟩) Li.length d2 Li rfl h1 hcap' (HT.out.on (HBw.out wx (G2.out.2.trans (hb.mono G2.out.2.size))))
      obtain ⟨dx, hdx⟩ : ∃ dx, decX Li = dx := ⟨_, rfl⟩
      obtain ⟨dE, hdE⟩ : ∃ dE, decE Li = dE := ⟨_, rfl⟩
      rw [hdx, hdE] at HDr HDp
      clear hdx hdE x1 x2 G1
      go_upto_region 24 with (go_at_call 8; refine HDr.out.mono ?_; rintro e v3 ⟨rfl, hb3⟩; have G3 : Hid (Below v2.heap.size v2 v3) := hb3; clear hb3)
      obtain ⟨Q1, hQ1⟩ : ∃ Q1, v3.heap.size = Q1 := ⟨_, rfl⟩
      obtain ⟨v4, hv4⟩ : ∃ v4, v3.alloc (.cells #[.int .i64 (dx 0), .int .i64 (dx 1), .int .i64 (dx 2), .int .i64 (dx 3), .int .i64 (dx 4), .int .i64 (dx 5), .int .i64 (dx 6), .int .i64 (dx 7), .int .i64 (dx 8), .int .i64 (dx 9), .int .i64 (dx 10), .int .i64 (dx 11), .int .i64 (dx 12), .int .i64 (dx 13), .int .i64 (dx 14)] 24) = v4 := ⟨_, rfl⟩
      have G4 : Hid (Below v2.heap.size v2 v4 ∧ v4.heap[Q1]? = some (.cells (inC dx) 24 (0, 0))) := by
        rw [← hv4, ← hQ1]
        exact ⟨G3.out.alloc G3.out.size _, heap_alloc_new v3 _⟩
      rw [hv4, hQ1]
      clear hv4 hQ1 G3 HDr z1
      have z1 := (HKi.out v4 (G2.out.2.trans (G4.out.1.mono G2.out.2.size))).1
      go_upto_region 25 with (go_at_call 9; refine (HDp.out _ G4.out.1).mono ?_; rintro e v5 ⟨rfl, hb5⟩; have G5 : Hid (Below v4.heap.size v4 v5) := hb5; clear hb5)
      obtain ⟨Q2, hQ2⟩ : ∃ Q2, v5.heap.size = Q2 := ⟨_, rfl⟩
      obtain ⟨v6, hv6⟩ : ∃ v6, v5.alloc (.cells #[.int .i64 (dx 0), .int .i64 (dx 1), .int .i64 (dx 2), .int .i64 (dx 3), .int .i64 (dx 4), .int .i64 (dx 5), .int .i64 (dx 6), .int .i64 (dx 7), .int .i64 (dx 8), .int .i64 (dx 9), .int .i64 (dx 10), .int .i64 (dx 11), .int .i64 (dx 12), .int .i64 (dx 13), .int .i64 (dx 14)] 24) = v6 := ⟨_, rfl⟩
      have G6 : Hid (Below v2.heap.size v2 v6 ∧ v6.heap[Q1]? = some (.cells (inC dx) 24 (0, 0)) ∧ v6.heap[Q2]? = some (.cells (inC dx) 24 (0, 0))) := by
        have hb : Below v4.heap.size v4 v6 := by rw [← hv6]; exact G5.out.alloc G5.out.size _
        refine ⟨G4.out.1.trans (hb.mono G4.out.1.size), (hb.block _ (heap_lt G4.out.2)).trans G4.out.2, ?_⟩
        rw [← hv6, ← hQ2]; exact heap_alloc_new v5 _
      rw [hv6, hQ2]
      clear hv6 hQ2 G5 G4 HDp z1
      have G7 : Hid (Below wC.heap.size wC v6) := G2.out.2.trans (G6.out.1.mono G2.out.2.size)
      have z1 := (HKi.out v6 G7.out).1
      have p0 : v6.cell? ⟨Q1, 0, none⟩ = some (.int .i64 (dx 0)) := box15 G6.out.2.1 0 (by omega); have p1 : v6.cell? ⟨Q1, 1, none⟩ = some (.int .i64 (dx 1)) := box15 G6.out.2.1 1 (by omega); have p2 : v6.cell? ⟨Q1, 2, none⟩ = some (.int .i64 (dx 2)) := box15 G6.out.2.1 2 (by omega); have p3 : v6.cell? ⟨Q1, 3, none⟩ = some (.int .i64 (dx 3)) := box15 G6.out.2.1 3 (by omega); have p4 : v6.cell? ⟨Q1, 4, none⟩ = some (.int .i64 (dx 4)) := box15 G6.out.2.1 4 (by omega); have p5 : v6.cell? ⟨Q1, 5, none⟩ = some (.int .i64 (dx 5)) := box15 G6.out.2.1 5 (by omega); have p6 : v6.cell? ⟨Q1, 6, none⟩ = some (.int .i64 (dx 6)) := box15 G6.out.2.1 6 (by omega); have p7 : v6.cell? ⟨Q1, 7, none⟩ = some (.int .i64 (dx 7)) := box15 G6.out.2.1 7 (by omega); have p8 : v6.cell? ⟨Q1, 8, none⟩ = some (.int .i64 (dx 8)) := box15 G6.out.2.1 8 (by omega); have p9 : v6.cell? ⟨Q1, 9, none⟩ = some (.int .i64 (dx 9)) := box15 G6.out.2.1 9 (by omega); have p10 : v6.cell? ⟨Q1, 10, none⟩ = some (.int .i64 (dx 10)) := box15 G6.out.2.1 10 (by omega); have p11 : v6.cell? ⟨Q1, 11, none⟩ = some (.int .i64 (dx 11)) := box15 G6.out.2.1 11 (by omega); have p12 : v6.cell? ⟨Q1, 12, none⟩ = some (.int .i64 (dx 12)) := box15 G6.out.2.1 12 (by omega); have p13 : v6.cell? ⟨Q1, 13, none⟩ = some (.int .i64 (dx 13)) := box15 G6.out.2.1 13 (by omega); have p14 : v6.cell? ⟨Q1, 14, none⟩ = some (.int .i64 (dx 14)) := box15 G6.out.2.1 14 (by omega)
      have q0 : v6.cell? ⟨Q2, 0, none⟩ = some (.int .i64 (dx 0)) := box15 G6.out.2.2 0 (by omega); have q1 : v6.cell? ⟨Q2, 1, none⟩ = some (.int .i64 (dx 1)) := box15 G6.out.2.2 1 (by omega); have q2 : v6.cell? ⟨Q2, 2, none⟩ = some (.int .i64 (dx 2)) := box15 G6.out.2.2 2 (by omega); have q3 : v6.cell? ⟨Q2, 3, none⟩ = some (.int .i64 (dx 3)) := box15 G6.out.2.2 3 (by omega); have q4 : v6.cell? ⟨Q2, 4, none⟩ = some (.int .i64 (dx 4)) := box15 G6.out.2.2 4 (by omega); have q5 : v6.cell? ⟨Q2, 5, none⟩ = some (.int .i64 (dx 5)) := box15 G6.out.2.2 5 (by omega); have q6 : v6.cell? ⟨Q2, 6, none⟩ = some (.int .i64 (dx 6)) := box15 G6.out.2.2 6 (by omega); have q7 : v6.cell? ⟨Q2, 7, none⟩ = some (.int .i64 (dx 7)) := box15 G6.out.2.2 7 (by omega); have q8 : v6.cell? ⟨Q2, 8, none⟩ = some (.int .i64 (dx 8)) := box15 G6.out.2.2 8 (by omega); have q9 : v6.cell? ⟨Q2, 9, none⟩ = some (.int .i64 (dx 9)) := box15 G6.out.2.2 9 (by omega); have q10 : v6.cell? ⟨Q2, 10, none⟩ = some (.int .i64 (dx 10)) := box15 G6.out.2.2 10 (by omega); have q11 : v6.cell? ⟨Q2, 11, none⟩ = some (.int .i64 (dx 11)) := box15 G6.out.2.2 11 (by omega); have q12 : v6.cell? ⟨Q2, 12, none⟩ = some (.int .i64 (dx 12)) := box15 G6.out.2.2 12 (by omega); have q13 : v6.cell? ⟨Q2, 13, none⟩ = some (.int .i64 (dx 13)) := box15 G6.out.2.2 13 (by omega); have q14 : v6.cell? ⟨Q2, 14, none⟩ = some (.int .i64 (dx 14)) := box15 G6.out.2.2 14 (by omega)
      obtain ⟨S2, hS2⟩ : ∃ S2, strOfNums Li = S2 := ⟨_, rfl⟩
      have hS1 : strOfNums (Li ++ [77]) = S2 ++ ⟨#[77]⟩ := by rw [← hS2]; exact str_app77 Li
      have cv1 : ∀ j, (convert 25 9 (.slice (some ⟨g2, 0, none⟩) (Li.length + 1) d2)).run Tryd.prog (v6.drewN j) = .ok (.string (S2 ++ ⟨#[77]⟩)) (v6.drewN j) := fun j => by
        rw [← hS1]; exact str_opt ((G2.out.1.on G6.out.1).on (belowD v6 j)).bytes (by simp)
      have cv2 : ∀ j, (convert 25 9 (.slice (some ⟨gi, 0, none⟩) Li.length ci)).run Tryd.prog (v6.drewN j) = .ok (.string S2) (v6.drewN j) := fun j => by
        rw [← hS2]; exact str_opt ((HKi.out v6 G7.out).2.on (belowD v6 j)) rfl
      have EN : ∀ w, (binOp .neq 24 (.agg #[.int .i64 (dx 0), .int .i64 (dx 1), .int .i64 (dx 2), .int .i64 (dx 3), .int .i64 (dx 4), .int .i64 (dx 5), .int .i64 (dx 6), .int .i64 (dx 7), .int .i64 (dx 8), .int .i64 (dx 9), .int .i64 (dx 10), .int .i64 (dx 11), .int .i64 (dx 12), .int .i64 (dx 13), .int .i64 (dx 14)]) (.agg #[.int .i64 (dx 0), .int .i64 (dx 1), .int .i64 (dx 2), .int .i64 (dx 3), .int .i64 (dx 4), .int .i64 (dx 5), .int .i64 (dx 6), .int .i64 (dx 7), .int .i64 (dx 8), .int .i64 (dx 9), .int .i64 (dx 10), .int .i64 (dx 11), .int .i64 (dx 12), .int .i64 (dx 13), .int .i64 (dx 14)])).run Tryd.prog w = .ok (.bool false) w := fun w => by
        have := neqI w dx dx
        rw [smB_iff.2 Sm.rfl] at this
        exact this
      have hsz : (S2.size : Int) ≤ 140737488351232 := by rw [← hS2, strOfNums_size]; omega
      have hsz2 : ¬ ((9223372036854775807 : Int) < (S2.size : Int) + 1) := by omega
      have hsz3 : (S2.size : Int) + 1 ≤ 9223372036854775807 := by omega
      have AD : ∀ w, (binOp .add 9 (.string S2) (.string ⟨#[77]⟩)).run Tryd.prog w = .ok (.string (S2 ++ ⟨#[77]⟩)) w := fun w => by
        have h := run_string_add_sum (P := Tryd.prog) w S2 ⟨#[77]⟩ (by have : (⟨#[77]⟩ : ByteArray).size = 1 := rfl; omega)
        simpa [binOp, run_underlying Tryd.underlying9] using h
      clear hS1 hS2
      go_quiet (fail)
      go_wp2
      go_round
      case rel => exact ⟨k + 1, by go_num, by omega, G7.out.trans ((belowD _ _).mono G7.out.size)⟩
      case measure => simp [intOf]; omega
    · have hlt' : ¬ (k : Int) < 3 := by omega
      go_wp2
      go_ret
      exact ⟨rfl, HBw.out _ HI.out⟩
end Go.Proofs.YtdheojhfgeabhaaDoor

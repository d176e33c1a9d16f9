import Derived.Test.YtdheojhfgeabhaaDoorKInL
import Derived.Laws.IdiomCopy
import Derived.Test.YtdheojhfgeabhaaDoorKTxG
namespace Go.Proofs.YtdheojhfgeabhaaDoor
open Go.RowKit Go.Maps Rec

theorem ptr_neqT (w : World) (p : Addr) : (binOp .neq 43 (.pointer (some p)) (.pointer none)).run Tryd.prog w = .ok (.bool true) w := by
  have h : ∀ d : Nat, (Op.equalIn (d + 1) 43 (.pointer (some p)) (.pointer none)).run Tryd.prog w = .ok false w := fun d => by
    simp [Op.equalIn, run_underlying Tryd.underlying43]
  simp only [binOp]
  simp [Op.equal, Op.maxDepth, h 9999]
end Go.Proofs.YtdheojhfgeabhaaDoor

namespace Go.Proofs.YtdheojhfgeabhaaDoor
open Go.RowKit Go.Maps Go.Sort Go.Shelf Rec

/-- numbers in memory -/
def IntsAt (w : World) (v : Value) (l : List Int) : Prop := ∃ a c, v = .slice a l.length c ∧ (l = [] ∨ ∃ g, a = some ⟨g, 0, none⟩ ∧ ∀ j x, l[j]? = some x → w.cell? ⟨g, j, none⟩ = some (.int .i64 x))
theorem IntsAt.on {w w' : World} {v : Value} {l : List Int} (h : IntsAt w v l) (hb : Below w.heap.size w w') : IntsAt w' v l := by
  obtain ⟨a, c, rfl, hl⟩ := h
  refine ⟨a, c, rfl, hl.imp id ?_⟩
  rintro ⟨g, rfl, hc⟩
  exact ⟨g, rfl, fun j x hx => (hb.cell (block_lt_of_cell (hc j x hx))).trans (hc j x hx)⟩
theorem ints_of {B : Nat} {w : World} {v : Value} {l : List Int} {n : Nat} (h : w.ownsRow B 3 1 v n (l.map (Value.int .i64))) (hn : l.length = n) : IntsAt w v l := by
  subst hn
  rcases h.2 with ⟨rfl, h0⟩ | ⟨g, cap, cur, rfl, h1, hg, h2, h3, h4, h5⟩
  · exact ⟨none, 0, by rw [h0], .inl (List.eq_nil_of_length_eq_zero h0)⟩
  · refine ⟨some ⟨g, 0, none⟩, cap, rfl, .inr ⟨g, rfl, fun j x hx => ?_⟩⟩
    have := h.cells (g := g) rfl j (.int .i64 x) (by simp [hx])
    rw [Addr.add_lit] at this
    simpa using this
theorem lst_next (c : Cm) (k : Nat) : lst c (k + 1) = lst c k ++ (c k).toList := by
  unfold lst
  rw [List.range_succ, List.filterMap_append]
  cases h : c k <;> simp [h]
theorem lst_low {c : Cm} {n : Nat} (h : COk c n) (k : Nat) (hk : k ≤ 98) : lst c k = [] := by
  unfold lst
  refine List.filterMap_eq_nil_iff.2 (fun i hi => ?_)
  cases hc : c i with
  | none => rfl
  | some q => have := h.lo i q hc; have := List.mem_range.1 hi; omega
theorem Cnt.val {c : Cm} {now : Nat → Int} {is : Nat → Bool} (h : Cnt (fun _ => none) c now is) (i : Nat) (h0 : 98 ≤ i) (h1 : i < 118) : valC c (fr6 118) i = one (now i) := by
  obtain ⟨_, a, b⟩ := h i h0 h1
  cases e : is i with
  | true =>
    obtain ⟨q, hq, hx⟩ := a e
    rw [valC_some hq, hx]
  | false =>
    obtain ⟨hq, hx⟩ := b e
    rw [valC_none hq, bck_fr6 _ _ h1, hx, v6, if_neg (by omega)]
theorem Cnt.is {c : Cm} {now : Nat → Int} {is : Nat → Bool} (h : Cnt (fun _ => none) c now is) (i : Nat) (h0 : 98 ≤ i) (h1 : i < 118) : is i = (c i).isSome := by
  obtain ⟨_, a, b⟩ := h i h0 h1
  cases e : is i with
  | true => obtain ⟨q, hq, hx⟩ := a e; rw [hq]; rfl
  | false => rw [(b e).1]; rfl
theorem bck_98 (i : Nat) (h0 : 98 ≤ i) (h1 : i < 118) : bck (fr6 118) i = one (i : Int) := by rw [bck_fr6 _ _ h1, v6, if_neg (by omega)]
end Go.Proofs.YtdheojhfgeabhaaDoor

namespace Go.Proofs.YtdheojhfgeabhaaDoor
open Go.RowKit Go.Maps Rec

end Go.Proofs.YtdheojhfgeabhaaDoor

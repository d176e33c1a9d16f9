import Derived.Test.YtdheojhfgeabhaaDoorKInC
namespace Go.Proofs.YtdheojhfgeabhaaDoor
open Go.RowKit Rec

theorem neq_nil (w : World) : (binOp .neq 1 .nilFunc .nilFunc).run Tryd.prog w = .ok (.bool false) w := by
  have h : ∀ d : Nat, (Op.equalIn (d + 1) 1 .nilFunc .nilFunc).run Tryd.prog w = .ok true w := fun d => by
    simp [Op.equalIn, run_underlying Tryd.underlying1]
  simp only [binOp]
  simp [Op.equal, Op.maxDepth, h 9999]
theorem neq_fn (w : World) (f : Fn) (a b : Array Value) : (binOp .neq 1 (.func f a b) .nilFunc).run Tryd.prog w = .ok (.bool true) w := by
  have h : ∀ d : Nat, (Op.equalIn (d + 1) 1 (.func f a b) .nilFunc).run Tryd.prog w = .ok false w := fun d => by
    simp [Op.equalIn, run_underlying Tryd.underlying1]
  simp only [binOp]
  simp [Op.equal, Op.maxDepth, h 9999]
theorem Dk.ticked_has (D : Dk) (k : Nat) : D.ticked.has k ↔ D.has k := by unfold Dk.ticked; split <;> exact Iff.rfl
/-- an act of a flush -/
def flushAc : Ac := ⟨2, 0, .slice none 0 0, []⟩
end Go.Proofs.YtdheojhfgeabhaaDoor

namespace Go.Proofs.YtdheojhfgeabhaaDoor
open Go.RowKit Rec

/-- a disk, wherever it lies -/
structure AD where
  nb : Nat
  las : List Int
  P : List (Nat × List Int)
  T : List (Int × Int × List Int)
  wr : Nat
  fl : Nat
  at_ : Int
  keep : List Bool
  down : Bool
def AD.f (a : AD) (k : Nat) : Nat := (a.P.getD k (0, [])).1
def AD.X (a : AD) (k : Nat) : List Int := (a.P.getD k (0, [])).2
def AD.full (a : AD) : List Int := lay (fun _ => true) a.f a.X a.las a.P.length
def AD.settle (a : AD) (kp : Nat → Bool) : AD := { a with las := lay kp a.f a.X a.las a.P.length, P := [] }
def AD.cut (a : AD) (kp : Nat → Bool) : AD := { a.settle kp with down := true }
def AD.tick (a : AD) : AD := if 0 < a.at_ then { a with at_ := a.at_ - 1 } else a
theorem tick_eq (a : AD) : a.tick = { a with at_ := if 0 < a.at_ then a.at_ - 1 else a.at_ } := by
  unfold AD.tick; split <;> rfl
def AD.write (a : AD) (i : Nat) (x : List Int) : AD :=
  let b : AD := { a with P := a.P ++ [(i, x)], T := a.T ++ [(1, (i : Int), x)], wr := a.wr + 1 }
  if a.at_ = 1 then ({ b with at_ := 0 } : AD).cut (kpOf a.keep) else b.tick
def AD.flush (a : AD) : AD :=
  let b : AD := { a with fl := a.fl + 1 }
  if a.at_ = 1 then ({ b with at_ := 0 } : AD).cut (kpOf a.keep) else ({ b.tick with T := a.T ++ [(2, 0, [])] } : AD).settle (fun _ => true)
/-- what a step answers -/
def AD.stepE (a : AD) : Int := if a.at_ = 1 then 30 else 0
def AD.touchE (a : AD) (i : Int) : Int := if a.down then 30 else if 0 ≤ i ∧ i < a.nb then 0 else 31
def Dk.abs (D : Dk) : AD := ⟨D.nb, D.las, D.pen.map (fun p => (p.b, p.x)), D.tap.map (fun a => (a.kind, a.b, a.x)), D.wr, D.fl, D.at_, D.keep, D.down⟩
theorem abs_f (D : Dk) : D.abs.f = D.f := by
  funext k
  simp only [AD.f, Dk.abs, Dk.f, List.getD, List.getElem?_map]
  cases D.pen[k]? <;> rfl
theorem abs_X (D : Dk) : D.abs.X = D.X := by
  funext k
  simp only [AD.X, Dk.abs, Dk.X, List.getD, List.getElem?_map]
  cases D.pen[k]? <;> rfl
theorem abs_len (D : Dk) : D.abs.P.length = D.pen.length := by simp [Dk.abs]
theorem abs_full (D : Dk) : D.full = D.abs.full := by rw [Dk.full, AD.full, abs_f, abs_X, abs_len]; rfl
theorem abs_touch (D : Dk) (i : Int) : touchE D i = D.abs.touchE i := rfl
theorem abs_settle (D : Dk) (kp : Nat → Bool) : (D.settled kp).abs = D.abs.settle kp := by
  rw [AD.settle, abs_f, abs_X, abs_len]; rfl
theorem abs_cut (D : Dk) (kp : Nat → Bool) : (D.cut kp).abs = D.abs.cut kp := by
  rw [AD.cut, ← abs_settle]; rfl
theorem abs_tick (D : Dk) : D.ticked.abs = D.abs.tick := by
  unfold Dk.ticked AD.tick
  show _ = if 0 < D.at_ then _ else _
  split <;> rfl
theorem abs_act (D : Dk) (gt ct : Nat) (a : Ac) : (D.act gt ct a).abs = { D.abs with T := D.abs.T ++ [(a.kind, a.b, a.x)] } := by simp [Dk.act, Dk.abs]
theorem abs_pend (D : Dk) (gt ct : Nat) (p : It) : (D.pend gt ct p).abs = { D.abs with P := D.abs.P ++ [(p.b, p.x)] } := by simp [Dk.pend, Dk.abs]
/-- there is room for more -/
structure RoomD (a : AD) : Prop where
  p : a.P.length + 1 ≤ 4294967296
  t : a.T.length + 1 ≤ 4294967296
  w : a.wr + 1 ≤ 4294967296
  f : a.fl + 1 ≤ 4294967296
  k : a.keep.length ≤ 9223372036854775807
theorem abs_tlen (D : Dk) : D.abs.T.length = D.tap.length := by simp [Dk.abs]
/-- its rows are those that it had, and new ones -/
def Al (n : Nat) (D D' : Dk) : Prop := ∀ k, D'.all k → D.all k ∨ n ≤ k
theorem al_trans {n n' : Nat} {D D' D'' : Dk} (h : Al n D D') (h' : Al n' D' D'') (hn : n ≤ n') : Al n D D'' := fun k hk => (h' k hk).elim (h k) (fun e => .inr (Nat.le_trans hn e))
theorem al_cut (n : Nat) (D : Dk) (kp : Nat → Bool) : Al n D (({ D with at_ := 0 } : Dk).cut kp) := by
  rintro k (hk | hk | ⟨p, hp, _⟩ | hk)
  · exact .inl (.inl ((settled_has { D with at_ := 0 } kp k).1 hk))
  · exact .inl (.inr (.inl hk))
  · cases hp
  · exact .inl (.inr (.inr (.inr hk)))
theorem al_crash (n : Nat) (D : Dk) (kp : Nat → Bool) : Al n D (D.cut kp) := by
  rintro k (hk | hk | ⟨p, hp, _⟩ | hk)
  · exact .inl (.inl ((settled_has D kp k).1 hk))
  · exact .inl (.inr (.inl hk))
  · cases hp
  · exact .inl (.inr (.inr (.inr hk)))
theorem al_tick (n : Nat) (D : Dk) : Al n D D.ticked := by
  unfold Dk.ticked; split <;> exact fun k hk => .inl hk
theorem al_put {n : Nat} {D D1 : Dk} {gt ct gp cp : Nat} {a : Ac} {p : It} (e1 : D1.kv = D.kv) (e2 : D1.pen = D.pen) (e3 : D1.tap = D.tap) (hm : ∀ k, ((D1.act gt ct a).pend gp cp p).has k → D.has k ∨ n ≤ k) (ha : ∀ k, a.v.ownBlock = some k → n ≤ k) (hp : n ≤ p.g) : Al n D ((D1.act gt ct a).pend gp cp p) := by
  rintro k (hk | hk | ⟨q, hq, hk⟩ | ⟨b, hb, hk⟩)
  · exact (hm k hk).imp .inl id
  · exact .inl (.inr (.inl (e1 ▸ hk)))
  · have hq : q ∈ D1.pen ++ [p] := hq
    rw [e2] at hq
    rcases List.mem_append.1 hq with hq | hq
    · exact .inl (.inr (.inr (.inl ⟨q, hq, hk⟩)))
    · rw [List.mem_singleton] at hq; subst hq; exact .inr (hk ▸ hp)
  · have hb : b ∈ D1.tap ++ [a] := hb
    rw [e3] at hb
    rcases List.mem_append.1 hb with hb | hb
    · exact .inl (.inr (.inr (.inr ⟨b, hb, hk⟩)))
    · rw [List.mem_singleton] at hb; subst hb; exact .inr (ha k hk)
theorem al_flush {n : Nat} {D D1 : Dk} {gt ct : Nat} (e1 : D1.kv = D.kv) (e3 : D1.tap = D.tap) (hm : ∀ k, ((D1.act gt ct flushAc).settled (fun _ => true)).has k → D.has k ∨ n ≤ k) : Al n D ((D1.act gt ct flushAc).settled (fun _ => true)) := by
  rintro k (hk | hk | ⟨q, hq, hk⟩ | ⟨b, hb, hk⟩)
  · exact (hm k hk).imp .inl id
  · exact .inl (.inr (.inl (e1 ▸ hk)))
  · cases hq
  · have hb : b ∈ D1.tap ++ [flushAc] := hb
    rw [e3] at hb
    rcases List.mem_append.1 hb with hb | hb
    · exact .inl (.inr (.inr (.inr ⟨b, hb, hk⟩)))
    · rw [List.mem_singleton] at hb; subst hb; cases hk
theorem ticked_kv (D : Dk) : D.ticked.kv = D.kv := by unfold Dk.ticked; split <;> rfl
theorem ticked_tap (D : Dk) : D.ticked.tap = D.tap := by unfold Dk.ticked; split <;> rfl
theorem Bytes.fr {S : Nat → Prop} {w w' : World} {p : Addr} {l : List Int} (h : Bytes w (Option.some p) l) (x : Fr S w w') (hk : ¬ S p.block) : Bytes w' (Option.some p) l := by
  refine ⟨h.len, h.wf, ?_⟩
  rcases h.at_ with e | ⟨b, off, e, hc⟩
  · exact .inl e
  · cases e
    exact .inr ⟨b, off, rfl, fun i hi => x.cell (hc i hi) hk⟩
end Go.Proofs.YtdheojhfgeabhaaDoor

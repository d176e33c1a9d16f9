import Derived.Test.YtpheajiepnjhdaaDoorRoomK
namespace Go.Proofs.YtpheajiepnjhdaaDoor
open Go.RowKit Rec

theorem Ints.front {w : World} {a : Option Addr} {l m : List Int} (h : Ints w a (l ++ m)) : Ints w a l := by
  refine ⟨by have := h.len; simp at this; omega, ?_⟩
  rcases h.at_ with e | ⟨b, off, rfl, hc⟩
  · exact .inl (by simp at e; exact e.1)
  · refine .inr ⟨b, off, rfl, fun i hi => ?_⟩
    rw [hc i (by simp; omega)]
    congr 2
    unfold nth
    simp [List.getD, List.getElem?_append_left hi]
/-- the header that is made, or nothing -/
def hdr (ns : List Int) (ds : List (List Int)) : List Int := if makeE ns ds = 0 then made ns ds else []
structure HdAt (w : World) (a : Option Addr) (n c : Nat) (x : List Int) : Prop where
  len : x.length = n
  bytes : Bytes w a x
  nil : a = none → c = 0
  top : n ≤ 140737488351232
theorem HdAt.on {w w' : World} {a : Option Addr} {n c : Nat} {x : List Int} (h : HdAt w a n c x) (hb : Below w.heap.size w w') : HdAt w' a n c x := ⟨h.len, h.bytes.on hb, h.nil, h.top⟩
theorem bytes_none (w : World) (a : Option Addr) : Bytes w a [] := ⟨by simp, fun i => by simp [nth], .inl rfl⟩
theorem make_hd (w : World) (a da : Option Addr) (k nc m dc : Nat) (ns : List Int) (ds : List (List Int)) (hn : ns.length = k) (hm : ds.length = m) (hI : Ints w a ns) (hD : Data w da ds) (hT : TabAt w) :
    Calls Tryd.prog 9 #[.slice a k nc, .slice da m dc] w fun e w' => ∃ b n c, e = .returned (.tuple #[.slice b n c, .int .i64 (makeE ns ds)]) ∧ HdAt w' b n c (hdr ns ds) ∧ Below w.heap.size w w' := by
  refine (make_any w a da k nc m dc ns ds hn hm hI hD hT).mono ?_
  rintro e w' ⟨v, rfl, hv, hb⟩
  rcases hv with ⟨h, rfl⟩ | ⟨h, g, rfl, ho, _⟩
  · exact ⟨_, _, _, rfl, by unfold hdr; rw [if_neg h]; exact ⟨rfl, bytes_none _ _, fun _ => rfl, by omega⟩, hb⟩
  · exact ⟨_, _, _, rfl, by unfold hdr; rw [if_pos h]; exact ⟨made_length _ _, ho.bytes, (fun e => by cases e), by omega⟩, hb⟩
theorem rmake_hd (w : World) (a da : Option Addr) (k nc m dc : Nat) (ns : List Int) (ds : List (List Int)) (hn : ns.length = k) (hm : ds.length = m) (hI : Ints w a ns) (hD : Data w da ds) :
    Calls Tryd.prog 17 #[.slice a k nc, .slice da m dc] w fun e w' => ∃ b n c, e = .returned (.tuple #[.slice b n c, .int .i64 (makeE ns ds)]) ∧ HdAt w' b n c (hdr ns ds) ∧ Below w.heap.size w w' := by
  refine (rmake_any w a da k nc m dc ns ds hn hm hI hD).mono ?_
  rintro e w' ⟨v, rfl, hv, hb⟩
  rcases hv with ⟨h, rfl⟩ | ⟨h, g, cap, rfl, ho, _⟩
  · exact ⟨_, _, _, rfl, by unfold hdr; rw [if_neg h]; exact ⟨rfl, bytes_none _ _, fun _ => rfl, by omega⟩, hb⟩
  · exact ⟨_, _, _, rfl, by unfold hdr; rw [if_pos h]; exact ⟨made_length _ _, ho.bytes, (fun e => by cases e), by omega⟩, hb⟩
theorem numsAt_ints {w w' : World} {v : Value} {l : List Int} (h : NumsAt w w' v l) : ∃ a n c, v = .slice a n c ∧ l.length = n ∧ Ints w' a l := by
  rcases h with ⟨rfl, rfl⟩ | ⟨g, cap, rfl, ho, _⟩
  · exact ⟨_, _, _, rfl, rfl, ⟨by simp, .inl rfl⟩⟩
  · exact ⟨_, _, _, rfl, rfl, ho.ints⟩
/-- what stands around the second half -/
structure ExAt (wx : World) (B p : Nat) (ds : List (List Int)) (dn gD cD : Nat) (sF : Value) (vs fs : List Value) (gm gI cI sn : Nat) (ns : List Int) (ha wa : Option Addr) (hn hc wn wc : Nat) : Prop where
  room : RoomEnd B wx p ds dn gD cD sF vs fs gm
  ints : OwnI wx gI cI (ns ++ [-71, -72])
  hd : HdAt wx ha hn hc (hdr ns ds)
  wd : HdAt wx wa wn wc (hdr ns ds)
theorem ExAt.on {w w' : World} {B p : Nat} {ds : List (List Int)} {dn gD cD : Nat} {sF : Value} {vs fs : List Value} {gm gI cI sn : Nat} {ns : List Int} {ha wa : Option Addr} {hn hc wn wc : Nat} (h : ExAt w B p ds dn gD cD sF vs fs gm gI cI sn ns ha wa hn hc wn wc) (hb : Below w.heap.size w w') : ExAt w' B p ds dn gD cD sF vs fs gm gI cI sn ns ha wa hn hc wn wc :=
  ⟨h.room.on hb, h.ints.on hb, h.hd.on hb, h.wd.on hb⟩
theorem wp_mark8 {ops : Array Oper} {rest : List Oper} {o : Oper} {act : Act} {Q : Exit → Act → World → Prop} {w1 : World} (hgd : o.guard = none) (s x : Operand)
    (ho : o.op = .call { callee := .builtin .append, args := #[s, x], argTypes := #[23, 23] }) (B g n cap : Nat) (l : List Int) (hs : act.eval s = .slice (some ⟨g, 0, none⟩) n cap) (hx : act.eval x = .slice (some ⟨w1.heap.size, 0, none⟩) 1 1)
    (hown : OwnB w1 g cap l) (hn : l.length = n) (hBg : B ≤ g) (hB : B ≤ w1.heap.size) (hn5 : n ≤ 140737488351232)
    (h : ∀ g' cap' w', B ≤ g' → OwnB w' g' cap' (l ++ [108]) → Below B w1 w' → n + 1 ≤ cap' → wpList Tryd.prog ops Q rest (act.put o.dst (.slice (some ⟨g', 0, none⟩) (n + 1) cap')) w') :
    wpList Tryd.prog ops Q (o :: rest) act (w1.alloc (.cells #[.int .u8 108] 5)) := by
  have hA : Below w1.heap.size w1 (w1.alloc (.cells #[.int .u8 108] 5)) := (Below.refl _ _).alloc (Nat.le_refl _) _
  have hO : OwnB (w1.alloc (.cells #[.int .u8 108] 5)) w1.heap.size 1 [108] := bytesL w1 [108] (by simp) (fun i => by
    by_cases h : i < 1
    · have : i = 0 := by omega
      subst this; exact ⟨by decide, by decide⟩
    · rw [nth_out _ _ (by simp; omega)]; omega)
  refine wp_app hgd s x ho B g n cap l [108] hn hs (hown.on hA) hBg (Nat.le_trans hB hA.size) (some ⟨w1.heap.size, 0, none⟩) 1 1 hx rfl hO.bytes (fun e => by cases e) (by omega) ?_
  intro g' cap' w' hg ho' hgr
  have b1 : Below B w1 (w1.alloc (.cells #[.int .u8 108] 5)) := hA.mono hB
  exact h g' cap' w' hg ho' (b1.trans (below_of hgr hBg (Nat.le_trans hB hA.size))) (by have := ho'.room; rw [List.length_append, hn] at this; simpa using this)
theorem nth_mark {l : List Int} {n : Nat} (h : l.length = n) : nth (l ++ [-71, -72]) n = -71 ∧ nth (l ++ [-71, -72]) (n + 1) = -72 := by
  subst h
  unfold nth
  simp [List.getD]
theorem nth_back {l : List Int} {n : Nat} (v : Int) (h : l.length = n) : nth (l ++ [v]) n = v := by
  subst h
  unfold nth
  simp [List.getD]
end Go.Proofs.YtpheajiepnjhdaaDoor

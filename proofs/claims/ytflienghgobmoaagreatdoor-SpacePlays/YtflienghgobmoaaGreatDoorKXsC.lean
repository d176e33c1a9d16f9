import Derived.Test.YtflienghgobmoaaGreatDoorKTxBm
import Derived.Test.YtflienghgobmoaaGreatDoorKTxN0
import Derived.Test.YtflienghgobmoaaGreatDoorKOpens
import Derived.Test.YtflienghgobmoaaGreatDoorKMathR
import Derived.Deep.RegionHeld3
namespace Go.Proofs.YtflienghgobmoaaGreatDoor
open Go.RowKit Go.Maps Go.Sort Go.Shelf Rec
def AnsB (B : Nat) (w : World) (v : Value) (x : List Int) : Prop := w.ownsRow 0 5 1 v x.length (x.map (Value.int .u8)) ∧ (∀ k, v.ownBlock = some k → B ≤ k) ∧ (∀ j, 0 ≤ nth x j ∧ nth x j < 256) ∧ ∃ a c, v = .slice a x.length c ∧ Bytes w a x
theorem ansB_own {B : Nat} {w : World} {g cap : Nat} {x : List Int} (h : OwnB w g cap x) (hg : B ≤ g) : AnsB B w (.slice (some ⟨g, 0, none⟩) x.length cap) x := ⟨RwA.owns (B := B) (.inr ⟨g, rfl, h, hg⟩), fun k e => by cases e; exact hg, h.wf, _, _, rfl, h.bytes⟩
theorem ansB_nil {B : Nat} {w : World} : AnsB B w (.slice none 0 0) [] := ⟨⟨by simp, .inl ⟨rfl, rfl⟩⟩, (fun k e => by cases e), (fun j => by simp [nth]), none, 0, rfl, RwA.bytes (B := 0) (.inl ⟨rfl, rfl, rfl⟩)⟩
/-- what Read tells -/
def tvE (c : Cm) (nb : Nat) (dn : Bool) (i : Int) : Int := if 0 ≤ i ∧ i < nb then (match c i.toNat with | some _ => 0 | none => if dn then 30 else 0) else 31
def tvX (c : Cm) (nb : Nat) (dn : Bool) (full : List Int) (i : Int) : List Int := if 0 ≤ i ∧ i < nb then (match c i.toNat with | some q => q.x | none => if dn then [] else bck full i.toNat) else []
set_option maxRecDepth 100000 in
set_option maxHeartbeats 4000000 in
theorem txread_any (w : World) (T : Tx) (D : Dk) (h : TxAt w T) (hD : Disk w D) (hd : D.d = T.d) (hn : D.nb = T.nb) (hfl : ∀ i, i < D.nb → D.down = false → (bck D.full i).length = 512) (i : Int) :
    Calls Tryz.prog 65 #[.pointer (some ⟨T.t, 0, none⟩), .int .i64 i] w fun e w' => ∃ v, e = .returned (.tuple #[v, .int .i64 (tvE T.c T.nb D.down i)]) ∧ AnsB w.heap.size w' v (tvX T.c T.nb D.down D.full i) ∧ Below w.heap.size w w' := by
  have HT : Hid (Calls Tryz.prog 77 #[.pointer (some ⟨T.t, 0, none⟩), .int .i64 i, .int .i64 0] w fun e w' => e = .returned (.int .i64 (touchT T.nb i 0)) ∧ w = w') := mayTouch_any w T D h hD hd hn i 0
  unfold tvE tvX
  by_cases hin : 0 ≤ i ∧ i < (T.nb : Int)
  · rw [if_pos hin, if_pos hin]
    obtain ⟨m, rfl⟩ : ∃ m : Nat, i = (m : Int) := ⟨i.toNat, by omega⟩
    have hm : m < T.nb := by omega
    have e0 : touchT T.nb (m : Int) 0 = 0 := touchT_ok (first := 0) (Nat.zero_le _) hm
    rw [e0] at HT
    rw [Int.toNat_natCast]
    by_cases hdn : D.down = false
    · refine (tread_any w T D h hD hd hn hdn m hm).mono ?_
      rintro e w' ⟨g, cap, rfl, hg, ho, hb⟩
      rw [hdn]
      cases hci : T.c m with
      | none =>
        rw [hci] at ho
        dsimp only at ho ⊢
        have hl := hfl m (by omega) hdn
        exact ⟨_, rfl, by
          have := ansB_own (B := w.heap.size) ho hg
          rw [hl] at this
          exact this, hb⟩
      | some q =>
        rw [hci] at ho
        dsimp only at ho ⊢
        have hb := h.blk m q hci
        exact ⟨_, rfl, by
          have := ansB_own (B := w.heap.size) ho hg
          rw [hb.len] at this
          exact this, by assumption⟩
    · have hdn' : D.down = true := by cases e : D.down with | true => rfl | false => exact absurd e hdn
      rw [hdn']
      cases hci : T.c m with
      | none =>
        have hc1 : w.cell? ⟨T.t, 1, none⟩ = some (.map (some T.mb)) := h.cell 1
        have hc0 : w.cell? ⟨T.t, 0, none⟩ = some (.pointer (some ⟨D.d, 0, none⟩)) := by rw [hd]; exact h.cell 0
        have hlk := h.map.look h.ok m (by have := h.n16; omega)
        rw [hci] at hlk
        have hlk' : (Instr.lookup 113 (.map (some T.mb)) (.int .i64 (m : Int)) true).run Tryz.prog w = .ok (.tuple #[.slice none 0 0, .bool false]) w := hlk
        have HR : Hid (Calls Tryz.prog 104 #[.pointer (some ⟨D.d, 0, none⟩), .int .i64 m] w fun e w' => e = .returned (.tuple #[.slice none 0 0, .int .i64 30]) ∧ w = w') := by
          have := read_no w D hD m (by unfold touchE; rw [hdn', if_pos rfl]; decide)
          rw [show touchE D m = 30 by unfold touchE; rw [hdn']; rfl] at this
          exact this
        clear h hD hlk hci hdn hd hn hfl hin hm e0
        go_enter Tryz.func65, Tryz.ntmps65
        go_wp2_with (first
          | (go_at_call 77; refine HT.out.mono ?_; rintro e w' ⟨rfl, rfl⟩)
          | (go_at_call 104; refine HR.out.mono ?_; rintro e w' ⟨rfl, rfl⟩))
        go_ret2
        exact ⟨_, rfl, ansB_nil, Below.refl _ _⟩
      | some q =>
        have hc1 : w.cell? ⟨T.t, 1, none⟩ = some (.map (some T.mb)) := h.cell 1
        have hlk := h.map.look h.ok m (by have := h.n16; omega)
        rw [hci] at hlk
        have hlk' : (Instr.lookup 113 (.map (some T.mb)) (.int .i64 (m : Int)) true).run Tryz.prog w = .ok (.tuple #[.slice (some ⟨q.g, 0, none⟩) 512 q.c, .bool true]) w := hlk
        have hbl := h.blk m q hci
        have HC : Hid (Calls Tryz.prog 19 #[.slice (some ⟨q.g, 0, none⟩) 512 q.c] w fun e w' => ∃ g cap, e = .returned (.slice (some ⟨g, 0, none⟩) 512 cap) ∧ w.heap.size ≤ g ∧ OwnB w' g cap q.x ∧ Below w.heap.size w w') := bclone_any w ⟨q.g, 0, none⟩ 512 q.c q.x hbl.bytes hbl.len (by omega)
        have HL : Hid (q.x.length = 512) := hbl.len
        clear h hD hlk hci hdn hd hn hfl hin hm e0 hbl
        go_enter Tryz.func65, Tryz.ntmps65
        go_wp2_with (first
          | (go_at_call 77; refine HT.out.mono ?_; rintro e w' ⟨rfl, rfl⟩)
          | (go_at_call 19; refine HC.out.mono ?_; rintro e w' ⟨g, cap, rfl, h1, h2, h3⟩; have H3 : Hid (w.heap.size ≤ g ∧ OwnB w' g cap q.x ∧ Below w.heap.size w w') := ⟨h1, h2, h3⟩; clear h1 h2 h3))
        go_ret2
        exact ⟨_, rfl, by
          have := ansB_own (B := w.heap.size) H3.out.2.1 H3.out.1
          rw [HL.out] at this
          exact this, H3.out.2.2⟩
  · rw [if_neg hin, if_neg hin]
    have e0 : touchT T.nb i 0 = 31 := by unfold touchT; rw [if_pos (by omega)]
    rw [e0] at HT
    clear h hD hd hn hfl hin e0
    go_enter Tryz.func65, Tryz.ntmps65
    go_wp2_with (go_at_call 77; refine HT.out.mono ?_; rintro e w' ⟨rfl, rfl⟩)
    go_ret2
    exact ⟨_, rfl, ansB_nil, Below.refl _ _⟩
set_option maxRecDepth 100000 in
set_option maxHeartbeats 4000000 in
theorem twrite_size6 (w : World) (T : Tx) (D : Dk) (h : TxAt w T) (hD : Disk w D) (hd : D.d = T.d) (hn : D.nb = T.nb) (i : Nat) (h0 : 98 ≤ i) (h1 : i < T.nb) (a : Option Addr) (l c : Nat) (hl : l ≠ 512) :
    Calls Tryz.prog 34 #[.pointer (some ⟨T.t, 0, none⟩), .int .i64 (i : Int), .slice a l c] w fun e w' => e = .returned (.int .i64 32) ∧ Below w.heap.size w w' := by
  have HB0 : Hid (Below w.heap.size w ((w.alloc (.cells #[.pointer (some ⟨T.t, 0, none⟩)] 39)).alloc (.cells #[.int .i64 (i : Int)] 3))) := ((Below.refl _ w).alloc (Nat.le_refl _) _).alloc (by simp) _
  have HMT : Hid (∀ wx, Below w.heap.size w wx → Calls Tryz.prog 77 #[.pointer (some ⟨T.t, 0, none⟩), .int .i64 (i : Int), .int .i64 98] wx fun e w' => e = .returned (.int .i64 0) ∧ wx = w') := fun wx hbx => by
    have := mayTouch_any wx T D (h.on hbx) (hD.on hbx) hd hn (i : Int) 98
    rw [show touchT T.nb (i : Int) 98 = 0 from touchT_ok (first := 98) h0 h1] at this
    exact this
  have hne : ((l : Int) == 512) = false := by simp; omega
  clear h hD hd hn
  go_enter Tryz.func34, Tryz.ntmps34
  go_wp2_with (go_at_call 77; refine (HMT.out _ HB0.out).mono ?_; rintro e w' ⟨rfl, rfl⟩)
  go_ret
  exact ⟨rfl, HB0.out⟩
set_option maxRecDepth 100000 in
set_option maxHeartbeats 4000000 in
theorem twrite_over (w : World) (t : Nat) (h : OverAt w t) (i : Int) (v : Value) :
    Calls Tryz.prog 34 #[.pointer (some ⟨t, 0, none⟩), .int .i64 i, v] w fun e w' => e = .returned (.int .i64 61) ∧ Below w.heap.size w w' := by
  have HB0 : Hid (Below w.heap.size w ((w.alloc (.cells #[.pointer (some ⟨t, 0, none⟩)] 39)).alloc (.cells #[.int .i64 i] 3))) := ((Below.refl _ w).alloc (Nat.le_refl _) _).alloc (by simp) _
  have HMT : Hid (∀ wx, Below w.heap.size w wx → Calls Tryz.prog 77 #[.pointer (some ⟨t, 0, none⟩), .int .i64 i, .int .i64 98] wx fun e w' => e = .returned (.int .i64 61) ∧ wx = w') := fun wx hbx =>
    touch_over wx t ((hbx.block _ (heap_lt h)).trans h) i 98
  clear h
  go_enter Tryz.func34, Tryz.ntmps34
  go_wp2_with (go_at_call 77; refine (HMT.out _ HB0.out).mono ?_; rintro e w' ⟨rfl, rfl⟩)
  go_ret
  exact ⟨rfl, HB0.out⟩
set_option maxRecDepth 100000 in
theorem commit_over (w : World) (t : Nat) (h : OverAt w t) : Calls Tryz.prog 40 #[.pointer (some ⟨t, 0, none⟩)] w fun e w' => e = .returned (.int .i64 61) ∧ w = w' := by
  have hc3 : w.cell? ⟨t, 3, none⟩ = some (.bool true) := cell_of_row _ _ 3 _ _ _ h
  clear h
  go_enter_defers Tryz.func40, Tryz.ntmps40
  go_wp2
  simp [bodyPostD, Leaves, results, Tryz.results40, go_sem]
end Go.Proofs.YtflienghgobmoaaGreatDoor

namespace Go.Proofs.YtflienghgobmoaaGreatDoor
open Go.RowKit Rec
open Crc (W)

theorem shr1 (x : W) : U x / (2 : Int) = U (x >>> (1 : Nat)) := by
  unfold U
  rw [BitVec.toNat_ushiftRight, Nat.shiftRight_eq_div_pow]; omega
theorem lsb (x : W) : x.getLsbD 0 = decide (x.toNat % 2 = 1) := by
  simp [BitVec.getLsbD]
theorem pl_odd (x : W) (h : (U x % 2 == 1) = true) : bits .xor .u32 (U x / 2) 3988292384 = U (Crc.pl x) := by
  have hb : x.getLsbD 0 = true := by rw [lsb]; unfold U at h; simp at h; simp; omega
  have e : (3988292384 : Int) = U 3988292384#32 := by decide
  rw [shr1, e, bits_xor]; unfold Crc.pl; rw [if_pos hb]
theorem pl_evn (x : W) (h : (U x % 2 == 1) = false) : U x / 2 = U (Crc.pl x) := by
  have hb : ¬ x.getLsbD 0 = true := by rw [lsb]; unfold U at h; simp at h; simp; omega
  rw [shr1]; unfold Crc.pl; rw [if_neg hb]
theorem pw_succ (k : Nat) (x : W) : Crc.pw Crc.pl (k + 1) x = Crc.pl (Crc.pw Crc.pl k x) := by rw [Crc.pw_add]; rfl
theorem xor_ones (x : W) : bits .xor .u32 (U x) 4294967295 = U (x ^^^ Crc.ones) := by
  rw [← bits_xor]; rfl

end Go.Proofs.YtflienghgobmoaaGreatDoor

namespace Go.Proofs.YtflienghgobmoaaGreatDoor
open Rec
/-- a number's bytes -/
def dgs (v : Int) (k : Nat) : List Int := (List.range k).map (dig v)
/-- the front of the document's header -/
def fr12 (k : Nat) : List Int := mag ++ dgs k 2 ++ [0, 0]
/-- its numbers -/
def bk6 (ns : List Int) (j : Nat) : List Int := (List.range j).flatMap (fun i => dgs (nth ns i) 4)
theorem dgs_len (v : Int) (k : Nat) : (dgs v k).length = k := by simp [dgs]
theorem nth_dgs (v : Int) (k i : Nat) (h : i < k) : nth (dgs v k) i = dig v i := nth_map _ _ _ h
theorem fr12_len (k : Nat) : (fr12 k).length = 12 := by simp [fr12, dgs_len, mag_len]
theorem bk6_len (ns : List Int) : ∀ j, (bk6 ns j).length = 4 * j
  | 0 => rfl
  | j + 1 => by
    have := bk6_len ns j
    unfold bk6 at this ⊢
    rw [List.range_succ, List.flatMap_append, List.length_append, this]
    simp [dgs_len]
    omega
theorem bk6_succ (ns : List Int) (j : Nat) : bk6 ns (j + 1) = bk6 ns j ++ dgs (nth ns j) 4 := by
  unfold bk6
  rw [List.range_succ, List.flatMap_append]
  simp
theorem nth_app_l (a b : List Int) (i : Nat) (h : i < a.length) : nth (a ++ b) i = nth a i := by
  unfold nth; rw [List.getD_eq_getElem?_getD, List.getD_eq_getElem?_getD, List.getElem?_append_left h]
theorem nth_app_r (a b : List Int) (i : Nat) (h : a.length ≤ i) : nth (a ++ b) i = nth b (i - a.length) := by
  unfold nth; rw [List.getD_eq_getElem?_getD, List.getD_eq_getElem?_getD, List.getElem?_append_right h]
theorem nth_bk6 (ns : List Int) : ∀ j i, i < 4 * j → nth (bk6 ns j) i = dig (nth ns (i / 4)) (i % 4)
  | 0, i, h => by omega
  | j + 1, i, h => by
    rw [bk6_succ]
    by_cases hi : i < 4 * j
    · rw [nth_app_l _ _ _ (by rw [bk6_len]; exact hi)]; exact nth_bk6 ns j i hi
    · rw [nth_app_r _ _ _ (by rw [bk6_len]; omega), bk6_len, nth_dgs _ _ _ (by omega)]
      have e1 : i / 4 = j := by omega
      have e2 : i - 4 * j = i % 4 := by omega
      rw [e1, e2]
theorem nth_reps (k : Nat) (i : Nat) : nth (List.replicate k (0 : Int)) i = 0 := by
  unfold nth
  rw [List.getD_eq_getElem?_getD, List.getElem?_replicate]
  split <;> rfl
theorem nth_fr12 (k i : Nat) (h : i < 12) : nth (fr12 k) i = if i < 8 then nth mag i else if i < 10 then dig k (i - 8) else 0 := by
  unfold fr12
  by_cases h8 : i < 8
  · rw [if_pos h8, nth_app_l _ _ _ (by rw [List.length_append, dgs_len, mag_len]; omega), nth_app_l _ _ _ (by rw [mag_len]; exact h8)]
  · rw [if_neg h8]
    by_cases h10 : i < 10
    · rw [if_pos h10, nth_app_l _ _ _ (by rw [List.length_append, dgs_len, mag_len]; omega), nth_app_r _ _ _ (by rw [mag_len]; omega), mag_len, nth_dgs _ _ _ (by omega)]
    · rw [if_neg h10, nth_app_r _ _ _ (by rw [List.length_append, dgs_len, mag_len]; omega), List.length_append, dgs_len, mag_len]
      have : i - (8 + 2) = 0 ∨ i - (8 + 2) = 1 := by omega
      rcases this with e | e <;> rw [e] <;> rfl
/-- the header, put together -/
theorem hd_parts (ns : List Int) (s : Int) (h : ns.length ≤ 124) : fr12 ns.length ++ dgs s 4 ++ (bk6 ns ns.length ++ List.replicate (496 - 4 * ns.length) 0) = hd ns s := by
  refine ext_nth ?_ ?_
  · rw [hd_length, List.length_append, List.length_append, List.length_append, fr12_len, dgs_len, bk6_len, List.length_replicate]; omega
  · intro i hi
    have hi' : i < 512 := by
      rw [List.length_append, List.length_append, List.length_append, fr12_len, dgs_len, bk6_len, List.length_replicate] at hi; omega
    rw [nth_hd _ _ _ hi']
    unfold hb
    by_cases h12 : i < 12
    · rw [nth_app_l _ _ _ (by rw [List.length_append, fr12_len]; omega), nth_app_l _ _ _ (by rw [fr12_len]; exact h12), nth_fr12 _ _ h12]
      split
      · rfl
      · split
        · rfl
        · rfl
    · rw [if_neg (by omega), if_neg (by omega), if_neg h12]
      by_cases h16 : i < 16
      · rw [if_pos h16, nth_app_l _ _ _ (by rw [List.length_append, fr12_len, dgs_len]; omega), nth_app_r _ _ _ (by rw [fr12_len]; omega), fr12_len, nth_dgs _ _ _ (by omega)]
      · rw [if_neg h16, nth_app_r _ _ _ (by rw [List.length_append, fr12_len, dgs_len]; omega), List.length_append, fr12_len, dgs_len]
        by_cases hn : i < 16 + 4 * ns.length
        · rw [if_pos hn, nth_app_l _ _ _ (by rw [bk6_len]; omega), nth_bk6 _ _ _ (by omega)]
        · rw [if_neg hn, nth_app_r _ _ _ (by rw [bk6_len]; omega), nth_reps]
theorem sum6 (ns : List Int) (ds : List (List Int)) (h : ns.length ≤ 124) : ((Crc.crc (fr12 ns.length ++ [0, 0, 0, 0] ++ (bk6 ns ns.length ++ List.replicate (496 - 4 * ns.length) 0) ++ ds.flatten)).toNat : Int) = sumV (hd ns 0) ds := by
  have e : ([0, 0, 0, 0] : List Int) = dgs 0 4 := by decide
  unfold sumV
  rw [hd_clear, e, hd_parts ns 0 h]
theorem dgs_bd (v : Int) (k : Nat) : ∀ i, 0 ≤ nth (dgs v k) i ∧ nth (dgs v k) i < 256 := fun i => by
  by_cases h : i < k
  · rw [nth_dgs _ _ _ h]; unfold dig; omega
  · unfold nth; rw [List.getD_eq_getElem?_getD, List.getElem?_eq_none (by rw [dgs_len]; omega)]; exact ⟨Int.le_refl _, by decide⟩
theorem dgs_succ (v : Int) (k : Nat) : dgs v (k + 1) = dgs v k ++ [dig v k] := by unfold dgs; rw [List.range_succ, List.map_append]; rfl
end Go.Proofs.YtflienghgobmoaaGreatDoor

namespace Go.Proofs.YtflienghgobmoaaGreatDoor
open Go.RowKit Rec
/-- the cells of the copies -/
structure CpC (w : World) (L : List ActR) (n b4 : Nat) (g c : Nat → Nat) : Prop where
  act : ∀ i, i < n → w.cell? ⟨b4, i * 3, none⟩ = some (.int .i64 (actN L i).kind) ∧ w.cell? ⟨b4, i * 3 + 1, none⟩ = some (.int .i64 (actN L i).b) ∧ w.cell? ⟨b4, i * 3 + 2, none⟩ = some (.slice (some ⟨g i, 0, none⟩) (actN L i).x.length (c i))
  last : w.cell? ⟨b4, n * 3, none⟩ = some (.int .i64 (-99))
theorem CpC.fr {S : Nat → Prop} {w w' : World} {L : List ActR} {n b4 : Nat} {g c : Nat → Nat} (h : CpC w L n b4 g c) (x : Fr S w w') (hS : ¬ S b4) : CpC w' L n b4 g c :=
  ⟨fun i hi => ⟨x.cell (h.act i hi).1 hS, x.cell (h.act i hi).2.1 hS, x.cell (h.act i hi).2.2 hS⟩, x.cell h.last hS⟩
end Go.Proofs.YtflienghgobmoaaGreatDoor

namespace Go.Proofs.YtflienghgobmoaaGreatDoor
open Go.RowKit Rec
/-- the document's disk, as it stands -/
structure RDk where
  r : Nat
  nb : Nat
  gf : Nat
  cf : Nat
  f : List Int
  av : Value
  L : List ActR
  kv : Value
  keep : List Bool
  left : Int
  out : Bool
  wr : Int
  fl : Int
def RDk.cells (D : RDk) : Array Value := #[.slice (some ⟨D.gf, 0, none⟩) (512 * D.nb) D.cf, D.av, D.kv, .int .i64 D.left, .bool D.out, .int .i64 D.wr, .int .i64 D.fl]
/-- an act that may be, its bytes in a row of their own -/
def RAct (w : World) (nb : Nat) (q : ActR) : Prop := (q.kind = 1 ∧ 0 ≤ q.b ∧ q.b < nb ∧ q.x.length = 512 ∧ ∃ g, q.a = some ⟨g, 0, none⟩ ∧ OwnB w g q.c q.x) ∨ (q.kind = 2 ∧ q.b = 0 ∧ q.a = none ∧ q.c = 0 ∧ q.x = [])
structure RDisk (w : World) (D : RDk) : Prop where
  box : w.heap[D.r]? = some (.cells D.cells 52 (0, 0))
  first : OwnB w D.gf D.cf D.f
  flen : D.f.length = 512 * D.nb
  nb0 : 1 ≤ D.nb ∧ D.nb ≤ 16384
  acts : w.ownsRow 0 177 3 D.av D.L.length (D.L.flatMap ActR.cells)
  each : ∀ q ∈ D.L, RAct w D.nb q
  keep : w.ownsRow 0 4 1 D.kv D.keep.length (D.keep.map Value.bool)
  llen : D.L.length ≤ 1000000000000
  lft : 0 ≤ D.left
theorem RAct.fr {S : Nat → Prop} {w w' : World} {nb : Nat} {q : ActR} (h : RAct w nb q) (x : Fr S w w') (hS : ∀ g c l, OwnB w g c l → ¬ S g) : RAct w' nb q := by
  rcases h with ⟨h1, h2, h3, h4, g, e, ho⟩ | h
  · exact .inl ⟨h1, h2, h3, h4, g, e, ownB_fr ho x (hS _ _ _ ho)⟩
  · exact .inr h
theorem RAct.on {w w' : World} {nb : Nat} {q : ActR} (h : RAct w nb q) (hb : Below w.heap.size w w') : RAct w' nb q := h.fr (below_fr hb (fun _ => False)) (fun _ _ _ _ e => e)
theorem RDisk.on {w w' : World} {D : RDk} (h : RDisk w D) (hb : Below w.heap.size w w') : RDisk w' D :=
  ⟨(hb.block _ (heap_lt h.box)).trans h.box, h.first.on hb, h.flen, h.nb0, owns_fr h.acts (below_fr hb (fun _ => False)) (fun _ _ e => e), fun q hq => (h.each q hq).on hb, owns_fr h.keep (below_fr hb (fun _ => False)) (fun _ _ e => e), h.llen, h.lft⟩
theorem RDisk.cell {w : World} {D : RDk} (h : RDisk w D) (i : Nat) : w.cell? ⟨D.r, i, none⟩ = D.cells[i]? := cell_of_row _ _ _ _ _ _ h.box
theorem RDisk.frozen {w : World} {D : RDk} (h : RDisk w D) (i : Nat) : w.frozen? ⟨D.r, i, none⟩ = false := frozen_of_row _ _ i _ _ h.box
theorem ownB_ne {w : World} {g c p : Nat} {l : List Int} {cs : Array Value} {t : Nat} {fz : Nat × Nat} (h : OwnB w g c l) (h' : w.heap[p]? = some (.cells cs t fz)) (hne : t ≠ 5) : g ≠ p := by
  intro e
  subst e
  obtain ⟨cur, h1, _⟩ := h.row
  rw [h'] at h1
  injection h1 with h1
  injection h1 with _ h2 _
  exact hne h2
/-- a write into its box -/
theorem RDisk.put {w : World} {D D' : RDk} (h : RDisk w D) (i : Nat) (v : Value) (he : D'.cells = D.cells.setIfInBounds i v) (hr : D'.r = D.r) (hn : D'.nb = D.nb) (hg : D'.gf = D.gf ∧ D'.cf = D.cf ∧ D'.f = D.f) (ha : D'.av = D.av ∧ D'.L = D.L) (hk : D'.kv = D.kv ∧ D'.keep = D.keep) (hl : 0 ≤ D'.left) : RDisk (w.setCell ⟨D.r, i, none⟩ v) D' ∧ Fr (fun k => k = D.r) w (w.setCell ⟨D.r, i, none⟩ v) := by
  have x : Fr (fun k => k = D.r) w (w.setCell ⟨D.r, i, none⟩ v) := Fr.set
  have hB : ∀ g c l, OwnB w g c l → ¬ g = D.r := fun g c l ho => ownB_ne ho h.box (by decide)
  refine ⟨⟨?_, ?_, by rw [hg.2.2, hn]; exact h.flen, by rw [hn]; exact h.nb0, ?_, ?_, ?_, by rw [ha.2]; exact h.llen, hl⟩, x⟩
  · rw [hr, he]; exact heap_setCell_same _ _ _ _ _ _ h.box
  · rw [hg.1, hg.2.1, hg.2.2]; exact ownB_fr h.first x (hB _ _ _ h.first)
  · rw [ha.1, ha.2]; exact owns_fr h.acts x (fun k hk e => own_apartX h.acts h.box (by decide) (by rw [hk, e]))
  · rw [ha.2, hn]; exact fun q hq => (h.each q hq).fr x hB
  · rw [hk.1, hk.2]; exact owns_fr h.keep x (fun k hk e => own_apartX h.keep h.box (by decide) (by rw [hk, e]))
/-- a step: does the power go? -/
def RDk.goes (D : RDk) : RDk := if D.left = 0 then D else { D with left := D.left - 1, out := decide (D.left - 1 = 0) }
def RDk.gone (D : RDk) : Bool := decide (D.left = 1)
set_option maxRecDepth 100000 in
set_option maxHeartbeats 1600000 in
theorem rgoes_any (w : World) (D : RDk) (h : RDisk w D) (ho : D.out = false) (hl : D.left ≤ 9223372036854775807) : Calls Tryz.prog 160 #[.pointer (some ⟨D.r, 0, none⟩)] w fun e w' => e = .returned (.bool D.gone) ∧ RDisk w' D.goes ∧ Fr (fun k => k = D.r) w w' := by
  have c3 := h.cell 3
  have c4 := h.cell 4
  have f3 := h.frozen 3
  have f4 := h.frozen 4
  have h0 := h.lft
  have HD : Hid (RDisk w D) := h
  clear h
  obtain ⟨r, nb, gf, cf, f, av, L, kv, keep, left, out, wr, fl⟩ := D
  dsimp only at ho hl h0 c3 c4 f3 f4
  subst ho
  replace c3 : w.cell? ⟨r, 3, none⟩ = some (.int .i64 left) := c3
  replace c4 : w.cell? ⟨r, 4, none⟩ = some (.bool false) := c4
  by_cases hz : left = 0
  · subst hz
    go_enter Tryz.func160, Tryz.ntmps160
    go_wp2
    go_ret
    exact ⟨rfl, HD.out, Fr.refl _ _⟩
  · have h1 : -9223372036854775808 ≤ left - 1 ∧ left - 1 ≤ 9223372036854775807 := by omega
    obtain ⟨g1, g2⟩ := HD.out.put (D' := ⟨r, nb, gf, cf, f, av, L, kv, keep, left - 1, false, wr, fl⟩) 3 (.int .i64 (left - 1)) rfl rfl rfl ⟨rfl, rfl, rfl⟩ ⟨rfl, rfl⟩ ⟨rfl, rfl⟩ (by show 0 ≤ left - 1; omega)
    obtain ⟨w1, hw1⟩ : ∃ w1, w.setCell ⟨r, 3, none⟩ (.int .i64 (left - 1)) = w1 := ⟨_, rfl⟩
    have g1' : RDisk w1 ⟨r, nb, gf, cf, f, av, L, kv, keep, left - 1, false, wr, fl⟩ := by rw [← hw1]; exact g1
    have g2' : Fr (fun k => k = r) w w1 := by rw [← hw1]; exact g2
    have d3 : w1.cell? ⟨r, 3, none⟩ = some (.int .i64 (left - 1)) := g1'.cell 3
    have d4 : w1.cell? ⟨r, 4, none⟩ = some (.bool false) := g1'.cell 4
    have e4 := g1'.frozen 4
    have HQ : Hid (RDisk w1 ⟨r, nb, gf, cf, f, av, L, kv, keep, left - 1, false, wr, fl⟩ ∧ Fr (fun k => k = r) w w1) := ⟨g1', g2'⟩
    clear g1 g2 g1' g2'
    obtain ⟨k1, k2⟩ := HQ.out.1.put (D' := ⟨r, nb, gf, cf, f, av, L, kv, keep, left - 1, decide (left - 1 = 0), wr, fl⟩) 4 (.bool (decide (left - 1 = 0))) rfl rfl rfl ⟨rfl, rfl, rfl⟩ ⟨rfl, rfl⟩ ⟨rfl, rfl⟩ (by show 0 ≤ left - 1; omega)
    obtain ⟨w2, hw2⟩ : ∃ w2, w1.setCell ⟨r, 4, none⟩ (.bool (decide (left - 1 = 0))) = w2 := ⟨_, rfl⟩
    rw [hw2] at k1 k2
    have d5 : w2.cell? ⟨r, 4, none⟩ = some (.bool (decide (left - 1 = 0))) := k1.cell 4
    have HR : Hid (RDisk w2 ⟨r, nb, gf, cf, f, av, L, kv, keep, left - 1, decide (left - 1 = 0), wr, fl⟩ ∧ Fr (fun k => k = r) w w2) := ⟨k1, HQ.out.2.trans k2 (fun _ e => .inl e)⟩
    clear k1 k2
    have hg : RDk.gone ⟨r, nb, gf, cf, f, av, L, kv, keep, left, false, wr, fl⟩ = decide (left - 1 = 0) := by
      unfold RDk.gone
      exact decide_eq_decide.2 (by show left = 1 ↔ left - 1 = 0; omega)
    have hgo : RDk.goes ⟨r, nb, gf, cf, f, av, L, kv, keep, left, false, wr, fl⟩ = ⟨r, nb, gf, cf, f, av, L, kv, keep, left - 1, decide (left - 1 = 0), wr, fl⟩ := by
      unfold RDk.goes
      rw [if_neg (show ¬ left = 0 from hz)]
    rw [hg, hgo]
    obtain ⟨bz, hbz⟩ : ∃ bz, decide (left - 1 = 0) = bz := ⟨_, rfl⟩
    rw [hbz] at hw2 d5 HR ⊢
    have hbq : (left - 1 == 0) = bz := hbz
    go_enter Tryz.func160, Tryz.ntmps160
    go_wp2
    go_ret
    exact ⟨rfl, HR.out⟩
end Go.Proofs.YtflienghgobmoaaGreatDoor

namespace Go.Proofs.YtflienghgobmoaaGreatDoor
open Go.RowKit Rec
set_option maxRecDepth 100000 in
theorem app_zeroB (w : World) (a : Option Addr) (c : Nat) : (Builtin.append_ #[22, 22] 22 #[.slice none 0 0, .slice a 0 c]).run Tryz.prog w = .ok (.slice none 0 0) w := by
  obtain ⟨i0, hi, hz0, hz1, hz2⟩ := info_parts info5
  cases a <;> simp [Builtin.append_, run_underlying Tryz.underlying22, sizeOf, typeInfo, hi, Builtin.lenOf, Builtin.firstCells, loadCells, loadCellsFrom]
theorem wp_zeroB {ops : Array Oper} {rest : List Oper} {o : Oper} {a : Act} {Q : Exit → Act → World → Prop} {w : World} (hgd : o.guard = none) (s x : Operand)
    (ho : o.op = .call { callee := .builtin .append, args := #[s, x], argTypes := #[22, 22] }) (hty : o.type = 22) (hs : a.eval s = .slice none 0 0) (ad : Option Addr) (c : Nat) (hx : a.eval x = .slice ad 0 c)
    (h : wpList Tryz.prog ops Q rest (a.put o.dst (.slice none 0 0)) w) : wpList Tryz.prog ops Q (o :: rest) a w := by
  refine wpList_plain hgd fun K hK => ?_
  unfold Oper.wp execOp
  simp only [ho, hty, resolve, invoke, builtin, Sem.run_bind, Sem.run_pure, Result.andThen_ok, List.map_toArray, List.map_cons, List.map_nil, hs, hx, app_zeroB w ad c]
  exact hK _ _ h
set_option maxRecDepth 100000 in
theorem copied_nil (w : World) (a : Option Addr) (c : Nat) : Calls Tryz.prog 20 #[.slice a 0 c] w fun e w' => e = .returned (.slice none 0 0) ∧ w = w' := by
  go_enter Tryz.func20, Tryz.ntmps20
  go_wp2_with (at_builtin; refine wp_zeroB rfl (.tmp 4) (.tmp 5) rfl rfl rfl a c rfl ?_)
  go_ret
  exact ⟨rfl, rfl⟩
/-- copied bytes: in a row of their own, or none -/
theorem copiedU (w : World) (a : Option Addr) (n c : Nat) (l : List Int) (hb : Bytes w a l) (hl : l.length = n) (h47 : n ≤ 140737488351232) : Calls Tryz.prog 20 #[.slice a n c] w fun e w' => ∃ v cap, e = .returned (.slice v n cap) ∧ RwA w.heap.size w' v cap l ∧ Below w.heap.size w w' := by
  by_cases h0 : n = 0
  · subst h0
    refine (copied_nil w a c).mono ?_
    rintro e w' ⟨rfl, rfl⟩
    exact ⟨none, 0, rfl, .inl ⟨List.eq_nil_of_length_eq_zero hl, rfl, rfl⟩, Below.refl _ _⟩
  · obtain ⟨p, rfl⟩ : ∃ p, a = some p := by
      rcases hb.at_ with e | ⟨b, o, e, _⟩
      · subst e; simp at hl; omega
      · exact ⟨_, e⟩
    refine (copied_any w p n c l hb hl (by omega) h47).mono ?_
    rintro e w' ⟨g, cap, rfl, h1, h2, h3⟩
    exact ⟨_, cap, rfl, .inr ⟨g, rfl, h2, h1⟩, h3⟩
set_option maxRecDepth 100000 in
theorem rblocks_q (w : World) (D : RDk) (h : RDisk w D) (q : Nat) : Calls Tryz.prog 79 #[.pointer (some ⟨D.r, 0, none⟩)] (w.drewN q) fun e w' => e = .returned (.int .i64 (D.nb : Int)) ∧ ∃ m, w' = (w.drewN q).drewN m := by
  have c0 : (w.drewN q).cell? ⟨D.r, 0, none⟩ = some (.slice (some ⟨D.gf, 0, none⟩) (512 * D.nb) D.cf) := h.cell 0
  have hw : wrap64 (D.nb : Int) = D.nb := by have := h.nb0; unfold wrap64; omega
  clear h
  go_enter Tryz.func79, Tryz.ntmps79
  go_wp2
  go_ret
  exact ⟨by show Ending.returned (Value.int .i64 (wrap64 (D.nb : Int))) = _; rw [hw], 0, rfl⟩
/-- one act more -/
theorem RDisk.add {w w1 : World} {D : RDk} {q : ActR} {b cap : Nat} (h : RDisk w D) (hq : RAct w D.nb q) (h1 : w1.ownsRow 0 177 3 (.slice (some ⟨b, 0, none⟩) (D.L.length + 1) cap) (D.L.length + 1) (D.L.flatMap ActR.cells ++ q.cells)) (h2 : Fr (fun k => D.av.ownBlock = some k) w w1) (hl : D.L.length + 1 ≤ 1000000000000) :
    w1.heap[D.r]? = some (.cells D.cells 52 (0, 0)) ∧ RDisk (w1.setCell ⟨D.r, 1, none⟩ (.slice (some ⟨b, 0, none⟩) (D.L.length + 1) cap)) { D with av := .slice (some ⟨b, 0, none⟩) (D.L.length + 1) cap, L := D.L ++ [q] } ∧ Fr (fun k => k = D.r ∨ D.av.ownBlock = some k) w (w1.setCell ⟨D.r, 1, none⟩ (.slice (some ⟨b, 0, none⟩) (D.L.length + 1) cap)) := by
  have hbox : w1.heap[D.r]? = some (.cells D.cells 52 (0, 0)) := h2.heap h.box (fun e => own_apartX h.acts h.box (by decide) e)
  have hB : ∀ g c l, OwnB w g c l → OwnB w1 g c l := fun g c l ho => ownB_fr ho h2 (fun e => own_apart7 h.acts ho (by decide) e)
  have x : Fr (fun k => k = D.r) w1 (w1.setCell ⟨D.r, 1, none⟩ (.slice (some ⟨b, 0, none⟩) (D.L.length + 1) cap)) := Fr.set
  have hB2 : ∀ g c l, OwnB w1 g c l → OwnB (w1.setCell ⟨D.r, 1, none⟩ (.slice (some ⟨b, 0, none⟩) (D.L.length + 1) cap)) g c l := fun g c l ho => ownB_fr ho x (ownB_ne ho hbox (by decide))
  have hA : ∀ p, RAct w D.nb p → RAct (w1.setCell ⟨D.r, 1, none⟩ (.slice (some ⟨b, 0, none⟩) (D.L.length + 1) cap)) D.nb p := fun p hp => by
    rcases hp with ⟨a1, a2, a3, a4, g, e, ho⟩ | hp
    · exact .inl ⟨a1, a2, a3, a4, g, e, hB2 _ _ _ (hB _ _ _ ho)⟩
    · exact .inr hp
  refine ⟨hbox, ⟨?_, hB2 _ _ _ (hB _ _ _ h.first), h.flen, h.nb0, ?_, ?_, ?_, ?_, h.lft⟩, (h2.mono (fun k hk => .inr hk)).trans x (fun k hk => .inl (.inl hk))⟩
  · exact heap_setCell_same _ _ _ _ _ _ hbox
  · have e : (D.L ++ [q]).flatMap ActR.cells = D.L.flatMap ActR.cells ++ q.cells := by simp
    show (w1.setCell _ _).ownsRow 0 _ 3 _ (D.L ++ [q]).length ((D.L ++ [q]).flatMap ActR.cells)
    rw [e, List.length_append]
    exact owns_fr h1 x (fun k hk e => own_apartX h1 hbox (by decide) (by rw [hk, e]))
  · intro p hp
    rcases List.mem_append.1 hp with hp | hp
    · exact hA p (h.each p hp)
    · rw [List.mem_singleton.1 hp]; exact hA q hq
  · have hk1 : w1.ownsRow 0 4 1 D.kv D.keep.length (D.keep.map Value.bool) := owns_fr h.keep h2 (fun k hk e => own_apartO h.keep h.acts (by decide) k hk e)
    exact owns_fr hk1 x (fun k hk e => own_apartX hk1 hbox (by decide) (by rw [hk, e]))
  · show (D.L ++ [q]).length ≤ _
    rw [List.length_append]; exact hl
end Go.Proofs.YtflienghgobmoaaGreatDoor

namespace Go.Proofs.YtflienghgobmoaaGreatDoor
open Go.RowKit Rec
theorem rdblocks_any (w : World) (D : RDk) (h : RDisk w D) : Calls Tryz.prog 79 #[.pointer (some ⟨D.r, 0, none⟩)] w fun e w' => e = .returned (.int .i64 (D.nb : Int)) ∧ Below w.heap.size w w' := by
  refine (rblocks_q w D h 0).mono ?_
  rintro e w' ⟨h1, m, rfl⟩
  exact ⟨h1, ⟨rfl, rfl, rfl, Nat.le_refl _, fun _ _ => rfl⟩⟩
set_option maxRecDepth 100000 in
set_option maxHeartbeats 1600000 in
theorem rwrite_out (w : World) (D : RDk) (h : RDisk w D) (ho : D.out = true) (i : Int) (a : Option Addr) (n c : Nat) : Calls Tryz.prog 126 #[.pointer (some ⟨D.r, 0, none⟩), .int .i64 i, .slice a n c] w fun e w' => e = .returned (.int .i64 30) ∧ w = w' := by
  have c4 : w.cell? ⟨D.r, 4, none⟩ = some (.bool true) := by rw [h.cell 4, ← ho]; rfl
  clear h
  go_enter Tryz.func126, Tryz.ntmps126
  go_wp2
  go_ret
  exact ⟨rfl, rfl⟩
/-- what a refused or taken write answers -/
def wq (i : Int) (l : List Int) : ActR := ⟨1, i, none, 0, l⟩
set_option maxRecDepth 100000 in
set_option maxHeartbeats 4000000 in
theorem rwrite_head (w : World) (D : RDk) (h : RDisk w D) (ho : D.out = false) (i : Int) (a : Option Addr) (n c : Nat) (l : List Int) (hb : Bytes w a l) (hl : l.length = n) (h47 : n ≤ 140737488351232) (he : actE D.nb (wq i l) ≠ 0) :
    Calls Tryz.prog 126 #[.pointer (some ⟨D.r, 0, none⟩), .int .i64 i, .slice a n c] w fun e w' => e = .returned (.int .i64 (actE D.nb (wq i l))) ∧ Below w.heap.size w w' := by
  have c4 : w.cell? ⟨D.r, 4, none⟩ = some (.bool false) := by rw [h.cell 4, ← ho]; rfl
  have CC : Hid (Calls Tryz.prog 20 #[.slice a n c] w fun e w' => ∃ v cap, e = .returned (.slice v n cap) ∧ RwA w.heap.size w' v cap l ∧ Below w.heap.size w w') := copiedU w a n c l hb hl h47
  have HD : Hid (RDisk w D ∧ l.length = n) := ⟨h, hl⟩
  have hlen := hb.len
  clear h hb hl
  obtain ⟨E, hE⟩ : ∃ E, actE D.nb (wq i l) = E := ⟨_, rfl⟩
  rw [hE] at he ⊢
  go_enter Tryz.func126, Tryz.ntmps126
  go_upto_region 4 with (go_at_call 20; refine CC.out.mono ?_; rintro e w1 ⟨v, cap, rfl, h1, h2⟩; have H1 : Hid (RwA w.heap.size w1 v cap l ∧ Below w.heap.size w w1) := ⟨h1, h2⟩; clear h1 h2)
  obtain ⟨P, hP⟩ : ∃ P, w1.heap.size = P := ⟨_, rfl⟩
  obtain ⟨w2, hw2⟩ : ∃ w2, w1.alloc (.cells #[.int .i64 1, .int .i64 i, .slice v n cap] 177) = w2 := ⟨_, rfl⟩
  have H2 : Hid (Below w.heap.size w w2 ∧ w2.heap[P]? = some (.cells #[.int .i64 1, .int .i64 i, .slice v n cap] 177 (0, 0))) := by
    rw [← hw2, ← hP]; exact ⟨H1.out.2.alloc H1.out.2.size _, heap_alloc_new _ _⟩
  rw [hw2, hP]
  clear hw2 hP
  have CB : Hid (∀ wx, Below w2.heap.size w2 wx → Calls Tryz.prog 79 #[.pointer (some ⟨D.r, 0, none⟩)] wx fun e w' => e = .returned (.int .i64 (D.nb : Int)) ∧ Below wx.heap.size wx w') := fun wx hb => rdblocks_any wx D ((HD.out.1.on H2.out.1).on hb)
  have CF : Hid (∀ wx, Calls Tryz.prog 159 #[.int .i64 (D.nb : Int), .agg #[.int .i64 1, .int .i64 i, .slice v n cap]] wx fun e w' => e = .returned (.int .i64 (actE D.nb (wq i l))) ∧ Below wx.heap.size wx w') := fun wx => by
    have hf := rfault_any wx D.nb ⟨1, i, v, cap, l⟩ HD.out.1.nb0.2 hlen
    rw [HD.out.2] at hf
    exact hf
  have HC : Hid (∀ wx, Below w2.heap.size w2 wx → wx.cell? ⟨P, 0, none⟩ = some (.int .i64 1) ∧ wx.cell? ⟨P, 1, none⟩ = some (.int .i64 i) ∧ wx.cell? ⟨P, 2, none⟩ = some (.slice v n cap)) := fun wx hb => by
    have hz := (hb.block P (heap_lt H2.out.2)).trans H2.out.2
    exact ⟨cell_of_row _ _ 0 _ _ _ hz, cell_of_row _ _ 1 _ _ _ hz, cell_of_row _ _ 2 _ _ _ hz⟩
  have x0 := HC.out w2 (Below.refl _ _)
  rw [hE] at CF
  clear hE CC
  have HB : Hid (Below w2.heap.size w2 w2.drew) := (Below.refl _ _).drew
  go_region_held3 (fun w' => w'.cell? ⟨P, 0, none⟩ = some (.int .i64 1) ∧ w'.cell? ⟨P, 1, none⟩ = some (.int .i64 i) ∧ w'.cell? ⟨P, 2, none⟩ = some (.slice v n cap)) (first | assumption | exact x0 | go_keep)
    (first
      | (go_at_call 79; refine (CB.out _ (by first | exact HB.out | exact Below.refl _ _)).mono ?_; rintro e u1 ⟨rfl, hb1⟩
         have G1 : Hid (Below w2.heap.size w2 u1) := (by first | exact HB.out.trans (hb1.mono HB.out.size) | exact hb1)
         have x1 := HC.out u1 G1.out
         clear hb1)
      | (go_at_call 159; refine (CF.out _).mono ?_; rintro e u2 ⟨rfl, hb2⟩
         have G2 : Hid (Below w2.heap.size w2 u2) := (by first | exact G1.out.trans (hb2.mono G1.out.size) | exact (G1.out.drew).trans (hb2.mono G1.out.size))
         have x2 := HC.out u2 G2.out
         clear hb2))
  all_goals
    go_wp2
    go_ret
    exact ⟨rfl, H2.out.1.trans (G2.out.mono H2.out.1.size)⟩
end Go.Proofs.YtflienghgobmoaaGreatDoor

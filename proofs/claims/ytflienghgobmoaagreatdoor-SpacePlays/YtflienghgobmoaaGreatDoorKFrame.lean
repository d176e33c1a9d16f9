import Derived.Test.YtflienghgobmoaaGreatDoorCards
import Derived.Test.YtflienghgobmoaaGreatDoorTie
import Derived.Test.YtflienghgobmoaaGreatDoorKMathR
import Derived.WalkKit
import Derived.ProofKit
import Derived.OpenShut
import Derived.ShutString
import Derived.ChangeOld
import Derived.Below
import Derived.Deep.DeepHandedRow
import Derived.Lib.LaidTab
import Derived.Test.YtflienghgobmoaaGreatDoorKOwn
import Derived.Deep.DeepCutAuto
import Derived.Lib.LazyBuf
import Derived.Lib.BufferWrite
import Derived.Lib.SliceRun
namespace Go.Proofs.YtflienghgobmoaaGreatDoor
open Go.ChangeShapes Go.WideShapes Go.ChangeAt Go.RowKit Rec

/-- all arguments read as they did -/
theorem trodAll_stays {H : Type} {enc : TypeId × Value → H} {P : Program} (hl : laidOutB P = true) {W W' : World} (hb : Below W.heap.size W W') :
    ∀ (ts : List TypeId) (vs : List Value) (ds : List (DataW H)) (ps : List MemPlace), (∀ t ∈ ts, P.readableRec t = true ∧ t < P.types.size) →
      DataW.TrodAll enc P W 0 (fun _ => true) true ts vs ds ps → DataW.TrodAll enc P W' 0 (fun b => decide (b < W.heap.size)) true ts vs ds ps
  | [], [], [], _, _, h => h
  | t :: ts, v :: vs, d :: ds, ps, hr, h => by
    obtain ⟨p, q, h1, h2, e⟩ := h
    have lt : ∀ x ∈ p, x.block < W.heap.size := by obtain ⟨m, hm⟩ := h1; exact DataW.trod_lt m _ _ _ hm
    have ht := hr t (List.mem_cons_self ..)
    exact ⟨p, q, Below.trod hl ht.1 ht.2 h1 hb lt, trodAll_stays hl hb ts vs ds q (fun t' h' => hr t' (List.mem_cons_of_mem _ h')) h2, e⟩
  | [], _ :: _, _, _, _, h => by simp [DataW.TrodAll] at h
  | [], [], _ :: _, _, _, h => by simp [DataW.TrodAll] at h
  | _ :: _, [], _, _, _, h => by simp [DataW.TrodAll] at h
  | _ :: _, _ :: _, [], _, _, h => by simp [DataW.TrodAll] at h

theorem own : ownKnob Tryz.prog.godebug = none := by kernel_rfl
theorem laidOut : laidOutB Tryz.prog = true := by kernel_rfl
/-- 200 -/
theorem gHal : Tryz.prog.globalNamed "bole/sum.halves" = some 1 := by kernel_rfl
theorem gHalType : (Tryz.prog.globals[1]?).map (·.type) = some 236 := by kernel_rfl
theorem gWid : Tryz.prog.globalNamed "bole/rec.widths" = some 0 := by kernel_rfl
theorem gWidType : (Tryz.prog.globals[0]?).map (·.type) = some 202 := by kernel_rfl
theorem cellsHal : Tryz.prog.cellsOf 236 = 16 := by kernel_rfl
theorem cellsWid : Tryz.prog.cellsOf 202 = 4 := by kernel_rfl
theorem cellsU : Tryz.prog.cellsOf 199 = 1 := by kernel_rfl
theorem cellsN : Tryz.prog.cellsOf 3 = 1 := by kernel_rfl
def tabInts : List Int := [0, 498536548, 997073096, 651767980, 1994146192, 1802195444, 1303535960, 1342533948, 3988292384, 4027552580, 3604390888, 3412177804, 2607071920, 2262029012, 2685067896, 3183342108]
theorem laid_tail {P : Program} {x : String × DataW Unit} {rest : List (String × DataW Unit)} {W : World} (h : laidMet P (x :: rest) W) : laidMet P rest W := by
  obtain ⟨ps, ⟨g, t, cs, fuel, p, q, _, _, _, _, hq, rfl⟩, hn, hc⟩ := h
  exact ⟨q, hq, (List.nodup_append.1 hn).2.1, fun b off hm => hc b off (List.mem_append_right _ hm)⟩
/-- what the rows' list gives: the tables' cells hold their numbers -/
theorem tabAt_of_laid {W : World} (h : laidMetH Tryz.prog [("bole/sum.halves", Rows.laid_bole_sum_halves), ("bole/rec.widths", Rows.laid_bole_rec_widths)] W) : TabAt W := by
  have h : laidMet Tryz.prog [("bole/sum.halves", Rows.laid_bole_sum_halves), ("bole/rec.widths", Rows.laid_bole_rec_widths)] W := h
  have t1 : Lib.TabIs Tryz.prog W "bole/sum.halves" .u32 tabInts := Lib.tabIs_of_head (rest := [("bole/rec.widths", Rows.laid_bole_rec_widths)]) gHal gHalType Tryz.underlying236 Tryz.underlying199 cellsU cellsHal h
  have t2 : Lib.TabIs Tryz.prog W "bole/rec.widths" .i64 [1, 2, 4, 8] := Lib.tabIs_of_head (rest := []) gWid gWidType Tryz.underlying202 Tryz.underlying3 cellsN cellsWid (laid_tail h)
  refine ⟨fun i hi => t2.cell gWid i hi, fun i hi => ?_⟩
  have h1 := t1.cell gHal i (by simpa [tabInts] using hi)
  rw [h1]
  have e : ∀ i, i < 16 → tabInts.getD i 0 = ((Crc.tab.getD i 0 : Nat) : Int) := by decide +kernel
  rw [e i hi]
/-- a world for the witnesses: the settled one, the tables holding what their initialisers lay -/
def lay0 : Obj → Obj
  | .cells _ t frozen => .cells #[.int .i64 1, .int .i64 2, .int .i64 4, .int .i64 8] t frozen
  | o => o
def lay1 : Obj → Obj
  | .cells _ t frozen => .cells (tabInts.map (Value.int .u32)).toArray t frozen
  | o => o
/-- 200 -/
def laidWorldOf (P : Program) (os : Os) : World :=
  { World.holding P os ⟨#[], #[], []⟩ with heap := ((World.holding P os ⟨#[], #[], []⟩).heap.modify 0 lay0).modify 1 lay1 }
end Go.Proofs.YtflienghgobmoaaGreatDoor

namespace Go.Proofs.YtflienghgobmoaaGreatDoor
open Go.RowKit Rec

end Go.Proofs.YtflienghgobmoaaGreatDoor

namespace Go.Proofs.YtflienghgobmoaaGreatDoor
open Go.RowKit Rec

theorem OwnB.cells {g cap : Nat} : ∀ (m : List Int) (w : World) (off : Nat) (L : List Int), OwnB w g cap L → off + m.length ≤ L.length → (∀ i, 0 ≤ nth m i ∧ nth m i < 256) →
    OwnB (w.setCells g off (m.map (Value.int .u8))) g cap (ov L off m.length (nth m)) ∧ w.grownBy (w.setCells g off (m.map (Value.int .u8))) (some g)
  | [], w, off, L, h, _, _ => ⟨by rw [List.length_nil, ov_zero]; exact h, grown_refl _ _⟩
  | c :: t, w, off, L, h, hl, hw => by
    rw [List.length_cons] at hl
    have hc := hw 0
    have h1 := h.set off c (by omega) hc
    have hw' : ∀ i, 0 ≤ nth t i ∧ nth t i < 256 := fun i => hw (i + 1)
    have ⟨h2, h3⟩ := OwnB.cells t _ (off + 1) _ h1 (by rw [List.length_set]; omega) hw'
    refine ⟨?_, grown_trans grown_set h3⟩
    have e1 : L.set off c = ov L off 1 (nth (c :: t)) := by
      have := ov_set L off 0 (nth (c :: t)) (by omega)
      rw [ov_zero] at this
      exact this
    rw [e1] at h2
    rw [ov_ov L off 1 t.length (nth (c :: t)) (nth t) (nth (c :: t)) (fun _ _ => rfl) (fun i _ => by rw [Nat.add_comm]; rfl)] at h2
    rw [List.length_cons, Nat.add_comm]
    exact h2

theorem zero5 (w : World) : (zeroValue 5).run Tryz.prog w = .ok (.int .u8 0) w := by kernel_rfl
theorem sizeOf5 (w : World) : (Go.sizeOf 5).run Tryz.prog w = .ok 1 w := by kernel_rfl
theorem sb_cells (s : ByteArray) : (s.data.toList.map fun x => Value.int .u8 (x.toNat : Int)) = (sb s).map (Value.int .u8) := by unfold sb; rw [List.map_map]; rfl

theorem scopy_run {w : World} {g cap off B k c : Nat} {L : List Int} {t : ByteArray} (ty : TypeId) (hO : OwnB w g cap L) (hB : B = off ∨ k = 0) (hle : t.size ≤ k) (hfit : off + t.size ≤ L.length) :
    ∃ w', (Builtin.copy_ #[22, 9] ty #[.slice (some ⟨g, B, none⟩) k c, .string t]).run Tryz.prog w = .ok (.int .i64 t.size) w' ∧ OwnB w' g cap (ov L off t.size (nth (sb t))) ∧ w.grownBy w' (some g) := by
  by_cases h0 : t.size = 0
  · refine ⟨w, ?_, by rw [h0, ov_zero]; exact hO, grown_refl _ _⟩
    rw [Lib.run_copy_empty_string (P := Tryz.prog) w 22 9 ty 5 _ k c t Tryz.underlying22 (by kernel_rfl) h0, h0]; rfl
  · obtain rfl : B = off := by omega
    have ⟨h1, h2⟩ := OwnB.cells (sb t) w B L hO (by rw [sb_length]; exact hfit) (sb_bd t)
    rw [sb_length] at h1
    refine ⟨_, ?_, h1, h2⟩
    rw [run_copy_string (P := Tryz.prog) w 22 9 ty 5 g B k c t Tryz.underlying22 sizeOf5 hle (fun j hj => by rw [hO.cell (B + j) (by omega)]; rfl) (fun j hj => hO.frozen _), sb_cells]; rfl
theorem clear_run {w : World} {g cap off B k c : Nat} {L : List Int} (ty : TypeId) (hO : OwnB w g cap L) (hB : B = off ∨ k = 0) (hfit : off + k ≤ L.length) :
    ∃ w', (Builtin.clear_ #[22] ty #[.slice (some ⟨g, B, none⟩) k c]).run Tryz.prog w = .ok (.tuple #[]) w' ∧ OwnB w' g cap (ov L off k (fun _ => 0)) ∧ w.grownBy w' (some g) := by
  by_cases h0 : k = 0
  · subst h0
    exact ⟨w, by simp [Builtin.clear_, run_underlying Tryz.underlying22], by rw [ov_zero]; exact hO, grown_refl _ _⟩
  · obtain rfl : B = off := by omega
    have e : List.replicate k (Value.int .u8 0) = (List.replicate k (0 : Int)).map (Value.int .u8) := by rw [List.map_replicate]
    have hz : ∀ i, nth (List.replicate k (0 : Int)) i = 0 := fun i => by
      by_cases hi : i < k
      · simp [nth, List.getD, hi]
      · exact nth_out _ _ (by rw [List.length_replicate]; omega)
    have ⟨h1, h2⟩ := OwnB.cells (List.replicate k 0) w B L hO (by rw [List.length_replicate]; exact hfit) (fun i => by rw [hz]; omega)
    rw [List.length_replicate, show nth (List.replicate k (0 : Int)) = fun _ => 0 from funext hz] at h1
    refine ⟨_, ?_, h1, h2⟩
    rw [Lib.run_clear_slice (P := Tryz.prog) w 22 5 ty (.int .u8 0) Tryz.underlying22 zero5 rfl rfl g B k c (by omega) (fun j hj => by rw [hO.cell (B + j) (by omega)]; rfl) (fun j hj => hO.frozen _), e]

set_option maxRecDepth 100000 in
set_option maxHeartbeats 1000000 in
theorem ptx_in (w : World) (g cap n c A N : Nat) (s : ByteArray) (L : List Int) (hO : OwnB w g cap L) (hn : n ≤ L.length) (hc : n ≤ c) (hA : A + N ≤ n) (hs : s.size ≤ N) (hz : ¬ ∃ i, i < s.size ∧ nth (sb s) i = 0) :
    Calls Tryz.prog 181 #[.slice (some ⟨g, 0, none⟩) n c, .int .i64 A, .int .i64 N, .string s] w fun e w' => e = .returned (.int .i64 0) ∧ OwnB w' g cap (ov L A N (nth (sb s))) ∧ w.grownBy w' (some g) := by
  have hlen := hO.len
  have HO : Hid (OwnB w g cap L) := hO
  have HZ : Hid (¬ ∃ i, i < s.size ∧ nth (sb s) i = 0) := hz
  have hl : Hid (lies n A N = true) := by unfold lies; exact decide_eq_true (by omega)
  have HE : Hid (ov (ov L A s.size (nth (sb s))) (A + s.size) (N - s.size) (fun _ => 0) = ov L A N (nth (sb s))) := by
    show _ = _
    rw [ov_ov L A s.size (N - s.size) (nth (sb s)) (fun _ => 0) (nth (sb s)) (fun _ _ => rfl) (fun i _ => (nth_out _ _ (by rw [sb_length]; omega)).symm)]
    congr 1; omega
  clear hO hz
  go_enter Tryz.func181, Tryz.ntmps181
  go_wp2_with (go_at_call 198; refine (sindex_any _ _).mono ?_; rintro e w' ⟨r1, hr, rfl, rfl⟩; replace hr : ¬ 0 ≤ r1 := fun h => HZ.out (hr.1 h))
  go_wp2_with (go_at_call 132; refine (lie_any _ _ _ _ _ _ (by omega) (by omega) (by omega)).mono ?_; rintro e w' ⟨rfl, rfl⟩; rw [hl.out])
  case' inl => obtain ⟨w2, hr2, ho2, hg2⟩ := scopy_run (off := A) (B := 0) (k := N) (c := 0) (t := s) 3 HO.out (by omega) hs (by omega)
  case' inl => have hs0 : s.size = 0 := by omega
  case' inr => obtain ⟨w2, hr2, ho2, hg2⟩ := scopy_run (off := A) (B := A) (k := N) (c := c - A) (t := s) 3 HO.out (by omega) hs (by omega)
  all_goals
    rw [hr2]
    have HO2 : Hid (OwnB w2 g cap (ov L A s.size (nth (sb s)))) := ho2
    have HG2 : Hid (World.grownBy _ w2 (some g)) := hg2
    clear ho2 hg2 hr2
    simp only [Result.andThen]
    rw [Oper.upon_value]
    go_wp2
  all_goals first
    | (obtain ⟨w3, hr3, ho3, hg3⟩ := clear_run (off := A + s.size) (B := A) (k := N - s.size) (c := 0) 0 HO2.out (by omega) (by rw [ov_length]; omega)
       rw [hr3, Result.andThen_ok, Oper.upon_value]
       rw [HE.out] at ho3
       have HO3 : Hid (OwnB w3 g cap (ov L A N (nth (sb s)))) := ho3
       have HG3 : Hid (World.grownBy w2 w3 (some g)) := hg3
       clear ho3 hg3 hr3
       go_wp2
       go_ret
       exact ⟨rfl, HO3.out, grown_trans HG2.out HG3.out⟩)
    | (obtain ⟨w3, hr3, ho3, hg3⟩ := clear_run (off := A + s.size) (B := A + s.size) (k := N - s.size) (c := c - A - s.size) 0 HO2.out (by omega) (by rw [ov_length]; omega)
       rw [hr3, Result.andThen_ok, Oper.upon_value]
       rw [HE.out] at ho3
       have HO3 : Hid (OwnB w3 g cap (ov L A N (nth (sb s)))) := ho3
       have HG3 : Hid (World.grownBy w2 w3 (some g)) := hg3
       clear ho3 hg3 hr3
       go_wp2
       go_ret
       exact ⟨rfl, HO3.out, grown_trans HG2.out HG3.out⟩)
    | (obtain ⟨w3, hr3, ho3, hg3⟩ := clear_run (off := A + s.size) (B := 0) (k := N - s.size) (c := 0) 0 HO2.out (by omega) (by rw [ov_length]; omega)
       rw [hr3, Result.andThen_ok, Oper.upon_value]
       rw [HE.out] at ho3
       have HO3 : Hid (OwnB w3 g cap (ov L A N (nth (sb s)))) := ho3
       have HG3 : Hid (World.grownBy w2 w3 (some g)) := hg3
       clear ho3 hg3 hr3
       go_wp2
       go_ret
       exact ⟨rfl, HO3.out, grown_trans HG2.out HG3.out⟩)
    | (obtain ⟨w3, hr3, ho3, hg3⟩ := clear_run (off := A + s.size) (B := 0) (k := N) (c := 0) 0 HO2.out (by omega) (by rw [ov_length]; omega)
       rw [hr3, Result.andThen_ok, Oper.upon_value]
       rw [show ov (ov L A s.size (nth (sb s))) (A + s.size) N (fun _ => 0) = ov (ov L A s.size (nth (sb s))) (A + s.size) (N - s.size) (fun _ => 0) by rw [hs0, Nat.sub_zero], HE.out] at ho3
       have HO3 : Hid (OwnB w3 g cap (ov L A N (nth (sb s)))) := ho3
       have HG3 : Hid (World.grownBy w2 w3 (some g)) := hg3
       clear ho3 hg3 hr3
       go_wp2
       go_ret
       exact ⟨rfl, HO3.out, grown_trans HG2.out HG3.out⟩)
end Go.Proofs.YtflienghgobmoaaGreatDoor

namespace Go.Proofs.YtflienghgobmoaaGreatDoor
open Go.RowKit
open Crc (W)

/-- a word as the model has it -/
def U (x : W) : Int := (x.toNat : Int)
theorem U_lo (x : W) : 0 ≤ U x := Int.natCast_nonneg _
theorem U_hi (x : W) : U x < 4294967296 := by unfold U; have := x.isLt; omega
theorem U_ofInt (x : Int) (h0 : 0 ≤ x) (h1 : x < 4294967296) : U (BitVec.ofInt 32 x) = x := by
  obtain ⟨X, rfl⟩ := Int.eq_ofNat_of_zero_le h0
  unfold U
  rw [BitVec.ofInt_natCast, BitVec.toNat_ofNat, Nat.mod_eq_of_lt (by omega)]
theorem bits_xor (x y : W) : bits .xor .u32 (U x) (U y) = U (x ^^^ y) := by
  have := u32_xor_nat x.toNat y.toNat (by have := x.isLt; omega) (by have := y.isLt; omega)
  unfold U
  rw [this, BitVec.toNat_xor]
theorem bits_and15 (x : W) : bits .and .u32 (U x) 15 = U x % 16 := by
  have := u32_and_nat x.toNat 15 (by have := x.isLt; omega) (by omega)
  unfold U
  rw [show (15 : Int) = ((15 : Nat) : Int) from rfl, this, show (15 : Nat) = 2 ^ 4 - 1 from rfl, Nat.and_two_pow_sub_one_eq_mod]; omega
theorem shr4 (x : W) : U x / (16 : Int) = U (x >>> (4 : Nat)) := by
  unfold U
  rw [BitVec.toNat_ushiftRight, Nat.shiftRight_eq_div_pow]; omega
theorem half_int (x : W) : bits .xor .u32 (U x / 16) ((Crc.tab.getD ((U x % 16).toNat) 0 : Nat) : Int) = U (Crc.half x) := by
  have e1 : (U x % 16).toNat = x.toNat % 16 := by unfold U; omega
  have hlt : ∀ k, k < 16 → Crc.tab.getD k 0 < 4294967296 := by decide +kernel
  have e2 : ((Crc.tab.getD (x.toNat % 16) 0 : Nat) : Int) = U (BitVec.ofNat 32 (Crc.tab.getD (x.toNat % 16) 0)) := by
    unfold U
    rw [BitVec.toNat_ofNat, Nat.mod_eq_of_lt (hlt _ (by omega))]
  rw [e1, e2, shr4, bits_xor]; rfl

set_option maxRecDepth 100000 in
theorem eight_core (w : World) (x y z t1 t2 : Int) (_h0 : 0 ≤ x) (_h1 : x < 4294967296) (_h2 : 0 ≤ y) (_h3 : y < 4294967296)
    (a1 : bits .and .u32 x 15 = x % 16) (c1 : w.cell? ⟨1, (x % 16).toNat, none⟩ = some (.int .u32 t1)) (e1 : bits .xor .u32 (x / 16) t1 = y)
    (a2 : bits .and .u32 y 15 = y % 16) (c2 : w.cell? ⟨1, (y % 16).toNat, none⟩ = some (.int .u32 t2)) (e2 : bits .xor .u32 (y / 16) t2 = z) :
    Calls Tryz.prog 206 #[.int .u32 x] w fun e w' => e = .returned (.int .u32 z) ∧ w = w' := by
  have b1 : 0 ≤ x % 16 ∧ x % 16 < 16 := by omega
  have b2 : 0 ≤ y % 16 ∧ y % 16 < 16 := by omega
  go_enter Tryz.func206, Tryz.ntmps206
  go_wp2
  go_ret
  exact ⟨rfl, rfl⟩

theorem eight_any (w : World) (x : W) (hT : TabAt w) :
    Calls Tryz.prog 206 #[.int .u32 (U x)] w fun e w' => e = .returned (.int .u32 (U (Crc.e8 x))) ∧ w = w' := by
  have lo := U_lo x
  have lo2 := U_lo (Crc.half x)
  rw [← Crc.half_half]
  exact eight_core w (U x) (U (Crc.half x)) _ _ _ lo (U_hi x) lo2 (U_hi _) (bits_and15 x) (hT.hal _ (by omega)) (half_int x) (bits_and15 _) (hT.hal _ (by omega)) (half_int _)
end Go.Proofs.YtflienghgobmoaaGreatDoor

namespace Go.Proofs.YtflienghgobmoaaGreatDoor
open Go.RowKit Rec
open Crc (W)

theorem xor_byte (x : W) (c : Int) (h : 0 ≤ c ∧ c < 256) : bits .xor .u32 (U x) c = U (x ^^^ BitVec.ofInt 32 c) := by
  rw [← bits_xor, U_ofInt c h.1 (by omega)]
theorem not_word (x : W) : bits .xor .u32 IntKind.u32.max (U x) = U (x ^^^ Crc.ones) := by
  rw [BitVec.xor_comm, ← bits_xor]; rfl
theorem take_snoc (l : List Int) (k : Nat) (h : k < l.length) : l.take (k + 1) = l.take k ++ [nth l k] := by
  rw [List.take_succ_eq_append_getElem h]; simp [nth, List.getD, h]

set_option maxRecDepth 100000 in
set_option maxHeartbeats 400000 in
theorem of_some (w : World) (b off cap : Nat) (l : List Int) (hT : TabAt w) (hlen : l.length ≤ 1000000000000000) (hwf : ∀ i, 0 ≤ nth l i ∧ nth l i < 256)
    (hc : ∀ i, i < l.length → w.cell? ⟨b, off + i, none⟩ = some (.int .u8 (nth l i))) :
    Calls Tryz.prog 200 #[.slice (some ⟨b, off, none⟩) l.length cap] w fun e w' => e = .returned (.int .u32 (U (Crc.crc l))) ∧ w = w' := by
  have HT : Hid (TabAt w) := hT
  have HC : Hid (∀ i, i < l.length → w.cell? ⟨b, off + i, none⟩ = some (.int .u8 (nth l i))) := hc
  have HW : Hid (∀ i, 0 ≤ nth l i ∧ nth l i < 256) := hwf
  clear hT hc hwf
  generalize hn : l.length = n at *
  have HN : Hid (l.length = n) := hn
  clear hn
  go_enter Tryz.func200, Tryz.ntmps200
  go_wp2
  go_loop [3, 8] (fun t i => ∃ k : Nat, k ≤ n ∧ i = .int .i64 k ∧ t = .int .u32 (U (Crc.fold Crc.ones (l.take k)))) (fun _ i => n - (intOf i).toNat)
  case atStart => exact ⟨0, Nat.zero_le _, rfl, rfl⟩
  case round =>
    obtain ⟨k, hk, rfl, rfl⟩ := hrel
    by_cases hlt : k < n
    · have c := HC.out k hlt
      have cb := HW.out k
      have hx := xor_byte (Crc.fold Crc.ones (l.take k)) (nth l k) cb
      have hs : Hid (Crc.fold Crc.ones (l.take (k + 1)) = Crc.e8 (Crc.fold Crc.ones (l.take k) ^^^ BitVec.ofInt 32 (nth l k))) := by
        rw [take_snoc l k (by rw [HN.out]; exact hlt)]; exact Crc.fold_snoc _ _ _
      go_wp2_with fail
      refine (eight_any _ _ HT.out).mono ?_
      rintro e w' ⟨rfl, rfl⟩
      go_wp2
      go_round
      case rel => exact ⟨k + 1, by omega, by go_num, by rw [hs.out]⟩
      case measure => simp [intOf]; omega
    · go_wp2
      go_ret
      refine ⟨?_, rfl⟩
      show Ending.returned (.int .u32 (bits .xor .u32 IntKind.u32.max (U (Crc.fold Crc.ones (l.take k))))) = _
      rw [List.take_of_length_le (by rw [HN.out]; omega), not_word]; rfl

set_option maxRecDepth 100000 in
theorem of_none (w : World) (a : Option Addr) (cap : Nat) :
    Calls Tryz.prog 200 #[.slice a 0 cap] w fun e w' => e = .returned (.int .u32 (U (Crc.crc []))) ∧ w = w' := by
  go_enter Tryz.func200, Tryz.ntmps200
  go_wp2
  go_loop [3, 8] (fun t i => i = .int .i64 0 ∧ t = .int .u32 4294967295) (fun _ _ => 0)
  case atStart => exact ⟨rfl, rfl⟩
  case round =>
    obtain ⟨rfl, rfl⟩ := hrel
    go_wp2
    go_ret
    exact ⟨rfl, rfl⟩

theorem of_any (w : World) (a : Option Addr) (n cap : Nat) (l : List Int) (hn : l.length = n) (hT : TabAt w) (hB : Bytes w a l) :
    Calls Tryz.prog 200 #[.slice a n cap] w fun e w' => e = .returned (.int .u32 (U (Crc.crc l))) ∧ w = w' := by
  subst hn
  rcases hB.at_ with h | ⟨b, off, rfl, hc⟩
  · subst h; exact of_none w a cap
  · exact of_some w b off cap l hT hB.len hB.wf hc
end Go.Proofs.YtflienghgobmoaaGreatDoor

namespace Go.Proofs.YtflienghgobmoaaGreatDoor
open Go.RowKit Rec

/-- numbers in memory -/
structure Ints (w : World) (a : Option Addr) (l : List Int) : Prop where
  len : l.length ≤ 1000000000000000
  at_ : l = [] ∨ ∃ b off, a = some ⟨b, off, none⟩ ∧ ∀ i, i < l.length → w.cell? ⟨b, off + i, none⟩ = some (.int .i64 (nth l i))
theorem Ints.on {w w' : World} {a : Option Addr} {l : List Int} (h : Ints w a l) (hb : Below w.heap.size w w') : Ints w' a l := by
  refine ⟨h.len, ?_⟩
  rcases h.at_ with e | ⟨b, off, rfl, hc⟩
  · exact .inl e
  · exact .inr ⟨b, off, rfl, fun i hi => by rw [hb.cell (block_lt_of_cell (hc i hi))]; exact hc i hi⟩
/-- one of the rows -/
def row (ds : List (List Int)) (i : Nat) : List Int := ds.getD i []
/-- rows in memory -/
structure Data (w : World) (a : Option Addr) (ds : List (List Int)) : Prop where
  len : ds.length ≤ 1000000000000000
  at_ : ds = [] ∨ ∃ b off, a = some ⟨b, off, none⟩ ∧ ∀ i, i < ds.length → ∃ a' c, w.cell? ⟨b, off + i, none⟩ = some (.slice a' (row ds i).length c) ∧ Bytes w a' (row ds i) ∧ (a' = none → c = 0)
theorem Data.on {w w' : World} {a : Option Addr} {ds : List (List Int)} (h : Data w a ds) (hb : Below w.heap.size w w') : Data w' a ds := by
  refine ⟨h.len, ?_⟩
  rcases h.at_ with e | ⟨b, off, rfl, hc⟩
  · exact .inl e
  · refine .inr ⟨b, off, rfl, fun i hi => ?_⟩
    obtain ⟨a', c, h1, h2, h3⟩ := hc i hi
    exact ⟨a', c, by rw [hb.cell (block_lt_of_cell h1)]; exact h1, h2.on hb, h3⟩
/-- a number in a row of its own -/
def Box (w : World) (p : Nat) (v : Int) : Prop := w.heap[p]? = some (.cells #[.int .i64 v] 3 (0, 0))
theorem Box.cell {w : World} {p : Nat} {v : Int} (h : Box w p v) : w.cell? ⟨p, 0, none⟩ = some (.int .i64 v) := by rw [cell_of_row _ _ _ _ _ _ h]; rfl
theorem Box.frozen {w : World} {p : Nat} {v : Int} (h : Box w p v) : w.frozen? ⟨p, 0, none⟩ = false := frozen_of_row _ _ _ _ _ h
theorem Box.set {w : World} {p : Nat} {v : Int} (h : Box w p v) (u : Int) : Box (w.setCell ⟨p, 0, none⟩ (.int .i64 u)) p u := by
  exact heap_setCell_same _ _ _ _ _ _ h
theorem Box.fr {S : Nat → Prop} {w w' : World} {p : Nat} {v : Int} (h : Box w p v) (x : Fr S w w') (hp : ¬ S p) : Box w' p v := x.heap h hp

set_option maxRecDepth 100000 in
theorem notBlock_any (w : World) (a : Option Addr) (n c : Nat) : Calls Tryz.prog 197 #[.slice a n c] w fun e w' => e = .returned (.bool (decide (n ≠ 512))) ∧ w = w' := by
  by_cases h : n = 512
  · subst h
    go_enter Tryz.func197, Tryz.ntmps197
    go_wp2
    go_ret
    exact ⟨rfl, rfl⟩
  · have h' : ¬ (n : Int) = 512 := by omega
    go_enter Tryz.func197, Tryz.ntmps197
    go_wp2
    go_ret
    refine ⟨?_, rfl⟩
    show Ending.returned (.bool ((n : Int) != 512)) = _
    have e : ((n : Int) != 512) = decide (n ≠ 512) := by rw [decide_eq_true h]; simp [h']
    rw [e]
set_option maxRecDepth 100000 in
theorem isCount_any (w : World) (n : Int) : Calls Tryz.prog 178 #[.int .i64 n] w fun e w' => e = .returned (.bool (decide (1 ≤ n) && decide (n ≤ 96))) ∧ w = w' := by
  by_cases h1 : 1 ≤ n
  · by_cases h2 : n ≤ 96
    · go_enter Tryz.func178, Tryz.ntmps178
      go_wp2
      go_ret
      exact ⟨by simp [h2]; omega, rfl⟩
    · go_enter Tryz.func178, Tryz.ntmps178
      go_wp2
      go_ret
      exact ⟨by simp; omega, rfl⟩
  · go_enter Tryz.func178, Tryz.ntmps178
    go_wp2
    go_ret
    exact ⟨by simp; omega, rfl⟩
set_option maxRecDepth 100000 in
theorem numAt_any (w : World) (i : Nat) (h : i ≤ 100) : Calls Tryz.prog 182 #[.int .i64 i] w fun e w' => e = .returned (.int .i64 ((16 + 4 * i : Nat) : Int)) ∧ w = w' := by
  go_enter Tryz.func182, Tryz.ntmps182
  go_wp2
  go_ret
  exact ⟨by go_num, rfl⟩
set_option maxRecDepth 100000 in
set_option maxHeartbeats 800000 in
theorem wrong_any (w : World) (p q : Nat) (bef n num : Int) (hp : Box w p bef) (hq : Box w q n) :
    Calls Tryz.prog 203 #[.int .i64 num, .pointer (some ⟨p, 0, none⟩), .pointer (some ⟨q, 0, none⟩)] w fun e w' => e = .returned (.bool (!(decide (bef < num ∧ num < n)))) ∧ w' = w.setCell ⟨p, 0, none⟩ (.int .i64 num) := by
  have c1 := hp.cell
  have f1 := hp.frozen
  have c2 := hq.cell
  clear hp hq
  by_cases h1 : bef < num
  · by_cases h2 : num < n
    · go_enter Tryz.func203, Tryz.ntmps203
      go_wp2
      go_ret
      exact ⟨by simp [h1, h2], rfl⟩
    · go_enter Tryz.func203, Tryz.ntmps203
      go_wp2
      go_ret
      exact ⟨by simp [h2], rfl⟩
  · go_enter Tryz.func203, Tryz.ntmps203
    go_wp2
    go_ret
    exact ⟨by simp [h1], rfl⟩
end Go.Proofs.YtflienghgobmoaaGreatDoor

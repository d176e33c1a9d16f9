import Derived.Test.YtklffjagdhbjcaaDoorThru
import Derived.Deep.DrawnRows
namespace Go.Proofs.YtklffjagdhbjcaaDoor
open Go.RowKit
open Crc (W)

/-- the first loop -/
structure T1 (w wr : World) (k : Nat) : Prop where
  below : Below w.heap.size w wr
  t : wr.heap[w.heap.size]? = some (.cells (zarr (onz k)) 52)
theorem t1_step {w wr : World} {k : Nat} (h : T1 w wr k) : T1 w (wr.setCell ⟨w.heap.size, k, none⟩ (.int .u32 (U (Crc.e8 (1#32 <<< k))))) (k + 1) := by
  refine ⟨h.below.setCell (Nat.le_refl _) _, ?_⟩
  rw [heap_setCell_same _ _ _ (zarr (onz k)) 52 _ h.t, zarr_set]
  have e : zarr (fun i => if i = k then Crc.e8 (1#32 <<< k) else onz k i) = zarr (onz (k + 1)) := by
    apply zarr_congr
    intro i _
    unfold onz
    by_cases e : i = k
    · subst e; simp
    · have : (i < k + 1) ↔ i < k := by omega
      simp [e, this]
  rw [e]
theorem t1_cell {w wr : World} {k : Nat} (h : T1 w wr k) (hk : k < 32) : (∃ v, wr.cell? ⟨w.heap.size, k, none⟩ = some v) ∧ wr.frozen? ⟨w.heap.size, k, none⟩ = false :=
  ⟨⟨_, by rw [cell_of_row _ _ _ _ _ _ h.t, zarr_get _ _ hk]⟩, frozen_of_row _ _ _ _ _ h.t⟩
theorem zz_one : zarr (onz 32) = zarr (zz 1) := zarr_congr fun i hi => by unfold onz zz; rw [if_pos hi]; rfl
/-- the second: t at N holds zz p -/
structure T2 (w wr : World) (p : Nat) : Prop where
  below : Below w.heap.size w wr
  t : wr.heap[w.heap.size]? = some (.cells (zarr (zz p)) 52)
/-- its inner one: u at M -/
structure T3 (w wr : World) (M p k : Nat) : Prop where
  t2 : T2 w wr p
  u : wr.heap[M]? = some (.cells (zarr (sqz (zz p) k)) 52)
  ne : w.heap.size < M
theorem t3_step {w wr : World} {M p k : Nat} (h : T3 w wr M p k) : T3 w ((wr.alloc (.cells (zarr (zz p)) 52)).setCell ⟨M, k, none⟩ (.int .u32 (U (Crc.app (zz p) (zz p k) 32)))) M p (k + 1) := by
  have hM := heap_lt h.u
  have hne := h.ne
  have hs := h.t2.below.size
  refine ⟨⟨(h.t2.below.alloc hs _).setCell (by show _ ≤ M; omega) _, ?_⟩, ?_, hne⟩
  · rw [heap_setCell_other _ _ _ _ (by show _ ≠ M; omega), Below.heap_alloc _ _ _ (by omega)]; exact h.t2.t
  · rw [heap_setCell_same _ _ _ (zarr (sqz (zz p) k)) 52 _ (by rw [Below.heap_alloc _ _ _ hM]; exact h.u), zarr_set]
    have e : zarr (fun i => if i = k then Crc.app (zz p) (zz p k) 32 else sqz (zz p) k i) = zarr (sqz (zz p) (k + 1)) := by
      apply zarr_congr
      intro i _
      unfold sqz
      by_cases e : i = k
      · subst e; simp
      · have : (i < k + 1) ↔ i < k := by omega
        simp [e, this]
    rw [e]
theorem t3_drew {w wr : World} {M p k : Nat} (h : T3 w wr M p k) : T3 w wr.drew M p k := ⟨⟨h.t2.below.drew, h.t2.t⟩, h.u, h.ne⟩

theorem t2_next {w wr : World} {p : Nat} (h : T2 w wr p) : T2 w (wr.setRow w.heap.size (zarr fun i => Crc.app (zz p) (zz p i) 32)) (p * 2) :=
  ⟨below_setRow h.below (Nat.le_refl _) _, by rw [← zz_sq]; exact setRow_heap _ _ _ _ _ _ h.t⟩
theorem t3_start {w wc : World} {p : Nat} (h : T2 w wc p) : T3 w (wc.alloc (.cells (zarr fun _ => 0#32) 52)) wc.heap.size p 0 :=
  ⟨⟨h.below.alloc h.below.size _, by rw [Below.heap_alloc _ _ _ (heap_lt h.t)]; exact h.t⟩, heap_alloc_new _ _, heap_lt h.t⟩
theorem t3_cell {w wr : World} {M p k : Nat} (h : T3 w wr M p k) (hk : k < 32) : wr.cell? ⟨w.heap.size, k, none⟩ = some (.int .u32 (U (zz p k))) := by
  rw [cell_of_row _ _ _ _ _ _ h.t2.t, zarr_get _ _ hk]
theorem t3_out {w wr : World} {M p k : Nat} (h : T3 w wr M p k) (hk : k < 32) : (∃ v, (wr.alloc (.cells (zarr (zz p)) 52)).cell? ⟨M, k, none⟩ = some v) ∧ (wr.alloc (.cells (zarr (zz p)) 52)).frozen? ⟨M, k, none⟩ = false := by
  have hh : (wr.alloc (.cells (zarr (zz p)) 52)).heap[M]? = some (.cells (zarr (sqz (zz p) k)) 52) := by rw [Below.heap_alloc _ _ _ (heap_lt h.u)]; exact h.u
  exact ⟨⟨_, by rw [cell_of_row _ _ _ _ _ _ hh, zarr_get _ _ hk]⟩, frozen_of_row _ _ _ _ _ hh⟩
/-- the row behind a pointer -/
def rowAt (w : World) (v : Value) : Array Value :=
  match v with
  | .pointer (some a) => match w.heap[a.block]? with
    | some (.cells cs _ _) => cs
    | _ => #[]
  | _ => #[]
def RowAt (w : World) (v : Value) : Prop := ∃ (g : Nat) (t : TypeId) (fr : Nat × Nat) (cs : Array Value), v = .pointer (some ⟨g, 0, none⟩) ∧ w.heap[g]? = some (.cells cs t fr) ∧ cs.size = 32
theorem rowAt_of {w : World} {g : Nat} {t : TypeId} {fr : Nat × Nat} {cs : Array Value} (h : w.heap[g]? = some (.cells cs t fr)) : rowAt w (.pointer (some ⟨g, 0, none⟩)) = cs := by
  unfold rowAt
  simp only [h]
theorem load52_eq {dst : Option Tmp} {ty : TypeId} {pos : String} {after : Array _} {a : Act} {w : World} {K : Act → World → Prop} {Q : Exit → Act → World → Prop} (h : RowAt w (a.eval (.tmp 5))) :
    Oper.wp Tryd.prog { dst := dst, op := .load 52 (.tmp 5), type := ty, pos := pos, after := after, guard := none } a w K Q = K (a.put dst (.agg (rowAt w (a.eval (.tmp 5))))) w := by
  obtain ⟨g, t, fr, cs, hx, hg, hs⟩ := h
  rw [hx, rowAt_of hg]
  unfold Oper.wp execOp
  simp only [hx, Instr.loadAt, Instr.sureAddr, Sem.run_bind, Sem.run_pure, Result.andThen_ok, run_loadVar_row w g t 52 cs fr _ hg Tryd.underlying52 rfl (by rw [hs]; exact info52)]
  rfl
attribute [local go_sem ↓] Go.wp_at_zero Go.wp_at_succ load52_eq

set_option maxRecDepth 100000 in
set_option maxHeartbeats 1600000 in
theorem thru_any (w : World) (x : W) (n : Nat) (hn : n ≤ 1099511627776) :
    Calls Tryd.prog 25 #[.int .u32 (U x), .int .i64 n] w fun e w' => e = .returned (.int .u32 (U (Crc.pw Crc.e8 n x))) ∧ Below w.heap.size w w' := by
  go_enter Tryd.func25, Tryd.ntmps25
  go_wp2
  rw [zarr_zero]
  go_loopw [6, 7, 8] (fun i _ _ wr => ∃ k : Nat, k ≤ 32 ∧ i = .int .i64 k ∧ T1 w wr k) (fun i _ _ _ => 32 - (intOf i).toNat)
  case atStart => exact ⟨0, Nat.zero_le _, rfl, ⟨(Below.refl _ _).alloc (Nat.le_refl _) _, heap_alloc_new _ _⟩⟩
  case round =>
    obtain ⟨k, hk, rfl, hr⟩ := hrel
    by_cases hlt : k < 32
    · obtain ⟨⟨v, hv⟩, hf⟩ := t1_cell hr hlt
      have HR := (show Hid _ from t1_step hr)
      have hd : decide ((k : Int) < 32) = true := by simp; omega
      clear hr
      go_wp2
      obtain ⟨wo, hwo⟩ : ∃ wo : World, wo = wr := ⟨_, rfl⟩
      rw [← hwo] at hv hf HR
      have HWO : Hid (wr = wo) := hwo.symm
      clear hwo
      go_loopw [7, 8] (fun t i w2 => ∃ m : Nat, m ≤ 8 ∧ i = .int .i64 m ∧ t = .int .u32 (U (Crc.pw Crc.pl m (1#32 <<< k))) ∧ w2 = wo) (fun _ i _ => 8 - (intOf i).toNat)
      case atStart => exact ⟨0, Nat.zero_le _, rfl, by rw [shl_one]; rfl, HWO.out⟩
      case round =>
        obtain ⟨m, hm, rfl, rfl, rfl⟩ := hrel
        by_cases hmt : m < 8
        · have hp : Hid (Crc.pl (Crc.pw Crc.pl m (1#32 <<< k)) = Crc.pw Crc.pl (m + 1) (1#32 <<< k)) := (pw_succ m _).symm
          go_wp2_with (go_at_call 24; refine (one_ref _ _).mono ?_; rintro e w' ⟨rfl, rfl⟩)
          go_roundw
          case rel => exact ⟨m + 1, by omega, by go_num, by rw [hp.out], trivial⟩
          case measure => simp [intOf]; omega
        · obtain rfl : m = 8 := by omega
          go_wp2
          go_roundw
          case rel => exact ⟨k + 1, by omega, by go_num, HR.out⟩
          case measure => simp [intOf]; omega
    · obtain rfl : k = 32 := by omega
      have hR : Hid (T2 w wr 1) := ⟨hr.below, by rw [← zz_one]; exact hr.t⟩
      clear hr
      go_wp2
      go_loopw [0, 1, 9, 10] (fun t i _ _ wr => ∃ (m p : Nat) (y : W), m ≤ n ∧ i = .int .i64 m ∧ t = .int .u32 (U y) ∧ T2 w wr p ∧ Crc.pw Crc.e8 (p * m) y = Crc.pw Crc.e8 n x) (fun _ i _ _ _ => (intOf i).toNat)
      case atStart => exact ⟨n, 1, x, Nat.le_refl _, rfl, rfl, hR.out, by rw [Nat.one_mul]⟩
      case round =>
        obtain ⟨m, p, y, hm, rfl, rfl, hr, he⟩ := hrel
        have HE : Hid (Crc.pw Crc.e8 (p * m) y = Crc.pw Crc.e8 n x) := he
        have HR2 : Hid (T2 w wr p) := hr
        clear he hr hR
        by_cases hlt : 0 < m
        · have hz := HR2.out.t
          go_upto_if 30 with fail
          go_cut [0] (fun s0 wx => ∃ y' : W, s0 = .int .u32 (U y') ∧ Crc.pw Crc.e8 (p * 2 * (m / 2)) y' = Crc.pw Crc.e8 n x ∧ T2 w wx p)
          case first =>
            by_cases hodd : m % 2 = 1
            · have hbit : ((m : Int) % 2 == 1) = true := by simp; omega
              go_wp2_with (first | (refine wpList_load_row rfl 52 _ rfl w.heap.size rfl 52 (zarr (zz p)) (0, 0) _ hz Tryd.underlying52 rfl (size52 _) ?_) | (go_at_call 26; refine (turnsOf_any _ _ _).mono ?_; rintro e w' ⟨rfl, rfl⟩))
              go_meet
              exact ⟨Crc.pw Crc.e8 p y, by rw [zz_app], by rw [← HE.out]; exact z_odd p m y hodd, ⟨HR2.out.below.alloc HR2.out.below.size _, by rw [Below.heap_alloc _ _ _ (heap_lt hz)]; exact hz⟩⟩
            · have hbit : ((m : Int) % 2 == 1) = false := by simp; omega
              go_wp2
              go_meet
              exact ⟨y, rfl, by rw [← HE.out]; exact z_even p m y (by omega), HR2.out⟩
          case rest =>
            obtain ⟨y', rfl, he', hr'⟩ := hcut
            have HE' : Hid (Crc.pw Crc.e8 (p * 2 * (m / 2)) y' = Crc.pw Crc.e8 n x) := he'
            have HRc : Hid (T3 w (wc.alloc (.cells (zarr fun _ => 0#32) 52)) wc.heap.size p 0) := t3_start hr'
            clear he' hr' hz HR2 HE
            go_wp2
            rw [zarr_zero]
            obtain ⟨M, hM⟩ : ∃ M : Nat, M = wc.heap.size := ⟨_, rfl⟩
            rw [← hM] at HRc ⊢
            clear hM
            go_loopw [10] (fun i wr => ∃ k : Nat, k ≤ 32 ∧ i = .int .i64 k ∧ T3 w wr M p k) (fun i _ => 32 - (intOf i).toNat)
            case atStart => exact ⟨0, Nat.zero_le _, rfl, HRc.out⟩
            case round =>
              obtain ⟨k, hk, rfl, hr⟩ := hrel
              have HR3 : Hid (T3 w wr M p k) := hr
              clear hr HRc
              by_cases hkt : k < 32
              · have c2 : wr.cell? ⟨w.heap.size, k, none⟩ = some (.int .u32 (U (zz p k))) := t3_cell HR3.out hkt
                have b1 : (0 : Int) ≤ (k : Int) := by omega
                have b2 : (k : Int) < 32 := by omega
                have r1 : RowAt wr.drew (.pointer (some ⟨w.heap.size, 0, none⟩)) := ⟨w.heap.size, 52, (0, 0), _, rfl, HR3.out.t2.t, zarr_size _⟩
                have r2 : rowAt wr.drew (.pointer (some ⟨w.heap.size, 0, none⟩)) = zarr (zz p) := rowAt_of HR3.out.t2.t
                obtain ⟨⟨v, hv⟩, hf⟩ := t3_out HR3.out hkt
                have HR4 : Hid (T3 w ((wr.alloc (.cells (zarr (zz p)) 52)).setCell ⟨M, k, none⟩ (.int .u32 (U (Crc.app (zz p) (zz p k) 32)))).drew M p (k + 1)) := t3_drew (t3_step HR3.out)
                clear HR3
                go_wp2
                go_region_with (go_at_call 26; refine (turnsOf_any _ (zz p) (zz p k)).mono ?_; rintro e w' ⟨rfl, rfl⟩)
                all_goals
                  go_wp2
                  go_roundw
                  case rel =>
                    (repeat apply Exists.intro)
                    refine ⟨⟨k + 1, by omega, ?_, HR4.out⟩, rfl⟩
                    go_num
                  case measure => simp [intOf]; omega
              · obtain rfl : k = 32 := by omega
                have hu : wr.heap[M]? = some (.cells (zarr fun i => Crc.app (zz p) (zz p i) 32) 52) := by
                  have h1 := HR3.out.u
                  have e : zarr (sqz (zz p) 32) = zarr (fun i => Crc.app (zz p) (zz p i) 32) := zarr_congr fun i hi => by unfold sqz; rw [if_pos hi]
                  rwa [e] at h1
                have ht := HR3.out.t2.t
                go_wp2_with (first | (refine wpList_load_row rfl 52 _ rfl M rfl 52 (zarr fun i => Crc.app (zz p) (zz p i) 32) (0, 0) _ hu Tryd.underlying52 rfl (size52 _) ?_) | (refine wpList_store_row rfl 52 _ _ rfl w.heap.size (zarr fun i => Crc.app (zz p) (zz p i) 32) rfl rfl 52 (zarr (zz p)) ht (size52 _) (by rw [zarr_size, zarr_size]) (zarr_one _) ?_))
                go_roundw
                case rel =>
                  (repeat apply Exists.intro)
                  refine ⟨⟨m / 2, p * 2, y', by omega, ?_, rfl, t2_next HR3.out.t2, HE'.out⟩, rfl⟩
                  go_num
                case measure => simp [intOf]; omega
        · obtain rfl : m = 0 := by omega
          go_wp2
          go_ret
          exact ⟨by rw [← HE.out]; rfl, HR2.out.below⟩
end Go.Proofs.YtklffjagdhbjcaaDoor

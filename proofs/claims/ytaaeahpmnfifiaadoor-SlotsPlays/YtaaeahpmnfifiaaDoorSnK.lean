import Derived.Test.YtaaeahpmnfifiaaDoorSnJ
import Derived.Deep.RegionHeld3
import Derived.Deep.CutBlock
namespace Go.Proofs.YtaaeahpmnfifiaaDoor
open Go.RowKit Rec Sc
theorem modI_any (w : World) (v n : Int) (h0 : 0 < n) (h1 : n ≤ 1000000000000) :
    Calls Tryd.prog 11 #[.int .i64 v, .int .i64 n] w fun e w' => e = .returned (.int .i64 (v % n)) ∧ w = w' := by
  obtain ⟨m, rfl⟩ := Int.eq_ofNat_of_zero_le (Int.le_of_lt h0)
  exact mod_any w v m (by omega) (by omega)
/-- a Cell's boxes: itself, the answer, the entry -/
structure Cn (w wx : World) (P : Nat) (pl ino n : Int) (s : ByteArray) (p i : Int) (nm : ByteArray) : Prop where
  bel : Below P w wx
  c : wx.heap[P]? = some (.cells #[.int .i64 pl, .int .i64 ino, .int .i64 n, .string s] 30 (0, 0))
  r : wx.heap[P + 1]? = some (.cells #[.int .i64 0, .string ⟨#[]⟩, .int .i64 0] 27 (0, 0))
  e : wx.heap[P + 2]? = some (.cells #[.int .i64 p, .string nm, .int .i64 i] 27 (0, 0))
theorem Cn.mk' {w wr : World} {P : Nat} {pl ino n : Int} {s : ByteArray} {p i : Int} (h : wr.heap[P]? = some (.cells #[.int .i64 pl, .int .i64 ino, .int .i64 n, .string s] 30 (0, 0)) ∧ wr.heap[P + 1]? = some (.cells #[.int .i64 0, .string ⟨#[]⟩, .int .i64 0] 27 (0, 0)) ∧ wr.heap.size = P + 2 ∧ Below P w wr) :
    Cn w (wr.alloc (.cells #[.int .i64 p, .string s, .int .i64 i] 27)).drew P pl ino n s p i s := by
  obtain ⟨h1, h2, h3, h4⟩ := h
  refine ⟨(h4.alloc (by omega) _).drew, ?_, ?_, ?_⟩
  · exact (Below.heap_alloc _ _ _ (by omega)).trans h1
  · exact (Below.heap_alloc _ _ _ (by omega)).trans h2
  · have := heap_alloc_new wr (.cells #[.int .i64 p, .string s, .int .i64 i] 27)
    rw [h3] at this
    exact this
/-- the bounds of a name that may be -/
def pl0 (s : ByteArray) : Bool := decide (1 ≤ s.size) && (decide (s.size ≤ 27) && (!(s.toList == [46]) && !(s.toList == [46, 46])))
/-- no slash, no zero among the first k -/
def okB (s : ByteArray) (k : Nat) : Prop := ∀ i, (h : i < s.size) → i < k → s[i].toNat ≠ 47 ∧ s[i].toNat ≠ 0
theorem name_of {s : ByteArray} (h0 : pl0 s = true) (h : okB s s.size) : Pa.name s.data.toList = true := by
  simp only [pl0, Bool.and_eq_true, decide_eq_true_eq, Bool.not_eq_true', beq_eq_false_iff_ne, ne_eq, toList_tx] at h0
  obtain ⟨a1, a2, a3, a4⟩ := h0
  have hl := size_tx s
  have hb : ∀ c, c ∈ tx s → c.toNat ≠ 47 ∧ c.toNat ≠ 0 := fun c hc => by
    obtain ⟨i, hi⟩ := List.getElem?_of_mem hc
    have hi2 := (List.getElem?_eq_some_iff.1 hi).1
    have hi3 : i < s.size := by omega
    have h' : i < s.data.toList.length := by rw [← Lib.size_eq]; exact hi3
    have e : (tx s)[i]? = some s[i] := by unfold tx; rw [List.getElem?_eq_getElem h']; rfl
    rw [e] at hi
    cases hi
    exact h i hi3 hi3
  have e1 : Pa.noPart (tx s) = false := by
    rw [Pa.noPart_iff]
    refine ⟨fun e => by rw [e] at hl; have h9 : ([] : Pa.Tx).length = 0 := rfl; omega, a3, fun h => (hb _ h).1 rfl, fun h => (hb _ h).2 rfl⟩
  have e2 : Pa.long (tx s) = false := decide_eq_false (by rw [← hl]; omega)
  have e3 : Pa.goes (tx s) = false := by simp [Pa.goes, a3, a4]
  show Pa.name (tx s) = true
  simp [Pa.name, e1, e2, e3]
/-- a letter and r digits -/
def Dg (s : ByteArray) (r : Nat) : Prop := ∃ ds : List UInt8, s.data.toList = 110 :: ds ∧ ds.length = r ∧ ∀ c, c ∈ ds → 48 ≤ c.toNat ∧ c.toNat ≤ 57
theorem Dg.name {s : ByteArray} {r : Nat} (h : Dg s r) (hr : r ≤ 6) : Pa.name s.data.toList = true := by
  obtain ⟨ds, h1, h2, h3⟩ := h
  rw [h1]
  have e1 : Pa.noPart (110 :: ds) = false := by
    rw [Pa.noPart_iff]
    refine ⟨by simp, by simp, fun h => ?_, fun h => ?_⟩
    · rcases List.mem_cons.1 h with h | h
      · cases h
      · have := h3 _ h; simp at this
    · rcases List.mem_cons.1 h with h | h
      · cases h
      · have := h3 _ h; simp at this
  have e2 : Pa.long (110 :: ds) = false := decide_eq_false (by simp; omega)
  have e3 : Pa.goes (110 :: ds) = false := by simp [Pa.goes]
  simp [Pa.name, e1, e2, e3]
theorem Dg.step {s t : ByteArray} {r : Nat} (h : Dg s r) (c : UInt8) (hc : 48 ≤ c.toNat ∧ c.toNat ≤ 57) (ht : t.data.toList = s.data.toList ++ [c]) : Dg t (r + 1) := by
  obtain ⟨ds, h1, h2, h3⟩ := h
  refine ⟨ds ++ [c], by rw [ht, h1]; rfl, by simp [h2], fun x hx => ?_⟩
  rcases List.mem_append.1 hx with hx | hx
  · exact h3 x hx
  · rw [List.mem_singleton.1 hx]; exact hc
theorem res_cell1 {fn : Func} {p : Tmp} {ty : TypeId} (h : fn.results = #[.cell p ty]) (tmps : Array Value) (w : World) (g : Nat) (cs : Array Value)
    (hp : tmps.getD p undef = .pointer (some ⟨g, 0, none⟩)) (hl : (loadVar ty ⟨g, 0, none⟩).run Tryd.prog w = .ok (.agg cs) w) :
    (results fn tmps).run Tryd.prog w = .ok (.agg cs) w := by
  have e : (results fn tmps).run Tryd.prog w = ((asAddr (tmps.getD p undef)).run Tryd.prog w).andThen fun a w₁ => (loadVar ty a).run Tryd.prog w₁ := by
    simp only [results, h]
    simp [Sem.run_bind, Result.andThen]
  rw [e, hp]
  simp [asAddr, hl]
theorem Cn.cells {w wx : World} {P : Nat} {pl ino n : Int} {s : ByteArray} {p i : Int} {nm : ByteArray} (h : Cn w wx P pl ino n s p i nm) :
    (wx.cell? ⟨P, 2, none⟩ = some (.int .i64 n) ∧ wx.cell? ⟨P, 3, none⟩ = some (.string s)) ∧ (wx.cell? ⟨P + 1, 0, none⟩ = some (.int .i64 0) ∧ wx.cell? ⟨P + 1, 1, none⟩ = some (.string ⟨#[]⟩) ∧ wx.cell? ⟨P + 1, 2, none⟩ = some (.int .i64 0)) ∧ (wx.cell? ⟨P + 2, 0, none⟩ = some (.int .i64 p) ∧ wx.cell? ⟨P + 2, 1, none⟩ = some (.string nm) ∧ wx.cell? ⟨P + 2, 2, none⟩ = some (.int .i64 i)) ∧ ∀ j, wx.frozen? ⟨P + 1, j, none⟩ = false ∧ wx.frozen? ⟨P + 2, j, none⟩ = false :=
  ⟨⟨cell_of_row _ _ 2 _ _ _ h.c, cell_of_row _ _ 3 _ _ _ h.c⟩, ⟨cell_of_row _ _ 0 _ _ _ h.r, cell_of_row _ _ 1 _ _ _ h.r, cell_of_row _ _ 2 _ _ _ h.r⟩, ⟨cell_of_row _ _ 0 _ _ _ h.e, cell_of_row _ _ 1 _ _ _ h.e, cell_of_row _ _ 2 _ _ _ h.e⟩, fun _ => ⟨frozen_of_row _ _ _ _ _ h.r, frozen_of_row _ _ _ _ _ h.e⟩⟩
theorem Cn.named {w wx : World} {P : Nat} {pl ino n : Int} {s : ByteArray} {p i : Int} {nm : ByteArray} (h : Cn w wx P pl ino n s p i nm) (t : ByteArray) : Cn w (wx.setCell ⟨P + 2, 1, none⟩ (.string t)) P pl ino n s p i t :=
  ⟨h.bel.setCell (show P ≤ P + 2 by omega) _, (Below.heap_setCell _ _ _ _ (show P ≠ P + 2 by omega)).trans h.c, (Below.heap_setCell _ _ _ _ (show P + 1 ≠ P + 2 by omega)).trans h.r, heap_setCell_same _ _ _ _ _ _ h.e⟩
theorem Cn.on {w wx wy : World} {P : Nat} {pl ino n : Int} {s : ByteArray} {p i : Int} {nm : ByteArray} (h : Cn w wx P pl ino n s p i nm) (hb : Below wx.heap.size wx wy) : Cn w wy P pl ino n s p i nm :=
  ⟨h.bel.trans (hb.mono (by have := heap_lt h.c; omega)), (hb.block _ (heap_lt h.c)).trans h.c, (hb.block _ (heap_lt h.r)).trans h.r, (hb.block _ (heap_lt h.e)).trans h.e⟩
set_option maxRecDepth 100000 in
set_option maxHeartbeats 4000000 in
theorem centry_any (w : World) (pl ino n : Int) (s : ByteArray) (hs : s.size ≤ 9223372036854775807) :
    Calls Tryd.prog 9 #[.agg #[.int .i64 pl, .int .i64 ino, .int .i64 n, .string s]] w fun e w' => (∃ nm, e = .returned (eV (pl % 16) nm (1 + ino % 4294967295)) ∧ Pa.name nm.data.toList = true) ∧ Below w.heap.size w w' := by
  obtain ⟨P, hP⟩ : ∃ P, w.heap.size = P := ⟨_, rfl⟩
  have HM : Hid (∀ (wx : World) (v n : Int), 0 < n → n ≤ 1000000000000 → Calls Tryd.prog 11 #[.int .i64 v, .int .i64 n] wx fun e w' => e = .returned (.int .i64 (v % n)) ∧ wx = w') := fun wx v n h0 h1 => modI_any wx v n h0 h1
  have b1 : 0 ≤ ino % 4294967295 ∧ ino % 4294967295 < 4294967295 := by omega
  have hw : IntKind.i64.wrap (1 + ino % 4294967295) = 1 + ino % 4294967295 := by rw [IntKind.wrap_i64]; omega
  go_enter Tryd.func9, Tryd.ntmps9
  go_upto_region 1 with fail
  go_cut [3] (fun s3 wx => s3 = .pointer (some ⟨P + 2, 0, none⟩) ∧ Cn w wx P pl ino n s (pl % 16) (1 + ino % 4294967295) s)
  case first =>
    obtain ⟨wr, hwr⟩ : ∃ wr, ((w.alloc (.cells #[.int .i64 pl, .int .i64 ino, .int .i64 n, .string s] 30)).alloc (.cells #[.int .i64 0, .string ⟨#[]⟩, .int .i64 0] 27)) = wr := ⟨_, rfl⟩
    have h1 : wr.heap[P]? = some (.cells #[.int .i64 pl, .int .i64 ino, .int .i64 n, .string s] 30 (0, 0)) := by
      rw [← hwr, ← hP, Below.heap_alloc _ _ _ (by simp)]; exact heap_alloc_new _ _
    have h2 : wr.heap[P + 1]? = some (.cells #[.int .i64 0, .string ⟨#[]⟩, .int .i64 0] 27 (0, 0)) := by
      rw [← hwr, ← hP]
      have := heap_alloc_new (w.alloc (.cells #[.int .i64 pl, .int .i64 ino, .int .i64 n, .string s] 30)) (.cells #[.int .i64 0, .string ⟨#[]⟩, .int .i64 0] 27)
      rw [World.size_alloc] at this
      exact this
    have h3 : wr.heap.size = P + 2 := by rw [← hwr, ← hP]; simp
    have h4 : Below P w wr := by rw [← hwr, ← hP]; exact ((Below.refl _ _).alloc (Nat.le_refl _) _).alloc (by simp) _
    rw [hwr]
    have HX : Hid (∀ wx, Below wr.heap.size wr wx → wx.cell? ⟨P, 0, none⟩ = some (.int .i64 pl) ∧ wx.cell? ⟨P, 1, none⟩ = some (.int .i64 ino) ∧ wx.cell? ⟨P, 3, none⟩ = some (.string s)) := fun wx hb => by
      have hh := (hb.block P (by omega)).trans h1
      exact ⟨cell_of_row _ _ 0 _ _ _ hh, cell_of_row _ _ 1 _ _ _ hh, cell_of_row _ _ 3 _ _ _ hh⟩
    have H1 : Hid (wr.heap[P]? = some (.cells #[.int .i64 pl, .int .i64 ino, .int .i64 n, .string s] 30 (0, 0)) ∧ wr.heap[P + 1]? = some (.cells #[.int .i64 0, .string ⟨#[]⟩, .int .i64 0] 27 (0, 0)) ∧ wr.heap.size = P + 2 ∧ Below P w wr) := ⟨h1, h2, h3, h4⟩
    clear hwr h1 h2 h3 h4
    have HD : Hid (Below wr.heap.size wr wr.drew) := (Below.refl _ _).drew
    obtain ⟨z0, z1, z3⟩ := HX.out _ HD.out
    have y0 : ∀ o, (wr.alloc o).cell? ⟨P, 0, none⟩ = some (.int .i64 pl) := fun o => (HX.out _ ((Below.refl _ _).alloc (Nat.le_refl _) o)).1
    have y1 : ∀ o, (wr.alloc o).cell? ⟨P, 1, none⟩ = some (.int .i64 ino) := fun o => (HX.out _ ((Below.refl _ _).alloc (Nat.le_refl _) o)).2.1
    have y3 : ∀ o, (wr.alloc o).cell? ⟨P, 3, none⟩ = some (.string s) := fun o => (HX.out _ ((Below.refl _ _).alloc (Nat.le_refl _) o)).2.2
    go_region_held3 (fun w' => w'.cell? ⟨P, 0, none⟩ = some (.int .i64 pl) ∧ w'.cell? ⟨P, 1, none⟩ = some (.int .i64 ino) ∧ w'.cell? ⟨P, 3, none⟩ = some (.string s)) (go_keep)
      (first
        | (go_at_call 11; refine (HM.out _ _ _ (by omega) (by omega)).mono ?_; rintro e w' ⟨rfl, rfl⟩))
    all_goals
      go_wp2_with fail
      go_meet
      exact ⟨by rw [H1.out.2.2.1], Cn.mk' H1.out⟩
  case rest =>
    obtain ⟨rfl, hC⟩ := hcut
    have HC : Hid (Cn w wc P pl ino n s (pl % 16) (1 + ino % 4294967295) s) := hC
    obtain ⟨⟨c2, c3⟩, ⟨d0, d1, d2⟩, ⟨e0, e1, e2⟩, hf⟩ := hC.cells
    have f0 := (hf 0).1
    have f1 := (hf 1).1
    have f2 := (hf 2).1
    have g1 := (hf 1).2
    clear hC hf
    go_upto_region 2 with fail
    go_cut [4] (fun s4 wy => s4 = .bool (pl0 s) ∧ wy = wc)
    case first =>
      by_cases a1 : 1 ≤ s.size
      · by_cases a2 : s.size ≤ 27
        · cases a3 : (s.toList == [46]) with
          | true =>
            go_wp2
            go_meet
            exact ⟨by simp [pl0, a3], rfl⟩
          | false =>
            go_wp2
            go_meet
            exact ⟨by simp [pl0, a1, a2, a3], rfl⟩
        · go_wp2
          go_meet
          exact ⟨by simp [pl0, a2], rfl⟩
      · go_wp2
        go_meet
        exact ⟨by simp [pl0, a1], rfl⟩
    case rest =>
      obtain ⟨rfl, hwc⟩ := hcut
      subst hwc
      go_upto_block 0 with fail
      go_cut [4] (fun s4 wy => (∃ b : Bool, s4 = .bool b ∧ (b = true → Pa.name s.data.toList = true)) ∧ wy = wc)
      case first =>
        go_wp2
        go_loopw [4, 5] (fun s4 s5 wr => ∃ (k : Nat) (b : Bool), k ≤ s.size ∧ s5 = .int .i64 (k : Int) ∧ s4 = .bool b ∧ (b = true → pl0 s = true ∧ okB s k) ∧ wr = wc) (fun _ s5 _ => s.size - (intOf s5).toNat)
        case atStart => exact ⟨0, pl0 s, Nat.zero_le _, rfl, rfl, fun h => ⟨h, fun i _ h => absurd h (by omega)⟩, rfl⟩
        case round =>
          obtain ⟨k, b, hk, rfl, rfl, hb, rfl⟩ := hrel
          have HN : Hid (b = true → pl0 s = true ∧ okB s k) := hb
          clear hb
          by_cases hlt : k < s.size
          · cases b with
            | true =>
              obtain ⟨c, hc⟩ : ∃ c : UInt8, s[k] = c := ⟨_, rfl⟩
              have HK : Hid (c.toNat ≠ 47 → c.toNat ≠ 0 → okB s (k + 1)) := fun h1 h2 i hi hk' => by
                by_cases e : i = k
                · subst e; rw [hc]; exact ⟨h1, h2⟩
                · exact (HN.out rfl).2 i hi (by omega)
              by_cases h47 : c.toNat = 47
              · go_wp2
                go_roundw
                case rel => exact ⟨k + 1, false, by omega, by go_num, by simp, fun h => (by cases h), trivial⟩
                case measure => simp [intOf]; omega
              · by_cases h00 : c.toNat = 0
                · go_wp2
                  go_roundw
                  case rel => exact ⟨k + 1, false, by omega, by go_num, by simp, fun h => (by cases h), trivial⟩
                  case measure => simp [intOf]; omega
                · go_wp2
                  go_roundw
                  case rel => exact ⟨k + 1, true, by omega, by go_num, by simp; omega, fun _ => ⟨(HN.out rfl).1, HK.out h47 h00⟩, trivial⟩
                  case measure => simp [intOf]; omega
            | false =>
              go_wp2
              go_meet
              exact ⟨⟨false, rfl, fun h => (by cases h)⟩, rfl⟩
          · obtain rfl : k = s.size := by omega
            go_wp2
            go_meet
            exact ⟨⟨b, rfl, fun h => name_of (HN.out h).1 (HN.out h).2⟩, rfl⟩
      case rest =>
        obtain ⟨⟨b, rfl, hb⟩, hwc⟩ := hcut
        subst hwc
        have HN : Hid (b = true → Pa.name s.data.toList = true) := hb
        clear hb
        cases b with
        | true =>
          go_wp2
          refine bodyPost_ret (res_cell1 rfl _ _ (P + 1) #[.int .i64 (pl % 16), .string s, .int .i64 (1 + ino % 4294967295)] rfl (ldR (put3 HC.out.r _ _ _))) rfl ?_
          exact ⟨⟨s, rfl, HN.out trivial⟩, below_put3 HC.out.bel (by omega)⟩
        | false =>
          clear HN
          have b2 : 0 ≤ n % 1000000 ∧ n % 1000000 < 1000000 := by omega
          have HC2 : Hid (Cn w (wc.setCell ⟨P + 2, 1, none⟩ (.string ⟨#[110]⟩)) P pl ino n s (pl % 16) (1 + ino % 4294967295) ⟨#[110]⟩) := HC.out.named _
          go_wp2_with (first
            | (go_at_call 11; refine (HM.out _ _ _ (by omega) (by omega)).mono ?_; rintro e w' ⟨rfl, rfl⟩))
          go_loopw [6] (fun s6 wr => ∃ (r v : Nat) (nm : ByteArray), r ≤ 6 ∧ s6 = .int .i64 (v : Int) ∧ v < 10 ^ (6 - r) ∧ Dg nm r ∧ Cn w wr P pl ino n s (pl % 16) (1 + ino % 4294967295) nm) (fun s6 _ => (intOf s6).toNat)
          case atStart =>
            obtain ⟨v, hv⟩ : ∃ v : Nat, n % 1000000 = v := ⟨(n % 1000000).toNat, by omega⟩
            exact ⟨0, v, ⟨#[110]⟩, by omega, by rw [hv], by omega, ⟨[], rfl, rfl, fun c h => by cases h⟩, HC2.out⟩
          case round =>
            obtain ⟨r, v, nm, hr, rfl, hv, hD, hC⟩ := hrel
            clear HC HC2 c2 c3 d0 d1 d2 e0 e1 e2 f0 f1 f2 g1
            obtain ⟨⟨c2, c3⟩, ⟨d0, d1, d2⟩, ⟨e0, e1, e2⟩, hf⟩ := hC.cells
            have f0 := (hf 0).1
            have f1 := (hf 1).1
            have f2 := (hf 2).1
            have g1 := (hf 1).2
            have HC : Hid (Cn w wr P pl ino n s (pl % 16) (1 + ino % 4294967295) nm) := hC
            have HD : Hid (Dg nm r) := hD
            have HV : Hid (v < 10 ^ (6 - r)) := hv
            clear hC hf hD hv
            by_cases h0 : v = 0
            · subst h0
              go_wp2
              refine bodyPost_ret (res_cell1 rfl _ _ (P + 1) #[.int .i64 (pl % 16), .string nm, .int .i64 (1 + ino % 4294967295)] rfl (ldR (put3 HC.out.r _ _ _))) rfl ?_
              exact ⟨⟨nm, rfl, HD.out.name hr⟩, by rw [hP]; exact below_put3 HC.out.bel (by omega)⟩
            · have h0' : ¬ (v : Int) = 0 := by omega
              obtain ⟨t, ht⟩ : ∃ t, strOfNums [48 + (v : Int) % 10] = t := ⟨_, rfl⟩
              have HT : Hid (t.data.toList = [UInt8.ofNat (48 + v % 10)]) := by
                show t.data.toList = _
                rw [← ht, strOfNums_data]
                show [UInt8.ofNat (48 + (v : Int) % 10).toNat] = _
                congr 2
              have hcv : (convert 25 9 (.slice (some ⟨wr.heap.size, 0, none⟩) 1 1)).run Tryd.prog (wr.alloc (.cells #[.int .u8 (48 + (v : Int) % 10)] 5)) = .ok (.string t) (wr.alloc (.cells #[.int .u8 (48 + (v : Int) % 10)] 5)) := by
                rw [← ht]
                have hB : Bytes (wr.alloc (.cells #[.int .u8 (48 + (v : Int) % 10)] 5)) (some ⟨wr.heap.size, 0, none⟩) [48 + (v : Int) % 10] := by
                  refine ⟨by simp, fun i => ?_, .inr ⟨wr.heap.size, 0, rfl, fun i hi => ?_⟩⟩
                  · by_cases e : i = 0
                    · subst e; simp [nth]; omega
                    · rw [nth_out _ _ (by simp; omega)]; omega
                  · obtain rfl : i = 0 := by simpa using hi
                    exact cell_of_row _ _ 0 _ _ _ (heap_alloc_new _ _)
                exact str_of hB rfl
              have HCa : Hid (Cn w (wr.alloc (.cells #[.int .u8 (48 + (v : Int) % 10)] 5)) P pl ino n s (pl % 16) (1 + ino % 4294967295) nm) := HC.out.on ((Below.refl _ _).alloc (Nat.le_refl _) _)
              clear ht
              have hts : t.size = 1 := by
                have : t.size = t.data.toList.length := (Array.length_toList).symm
                rw [this, HT.out]; rfl
              have hns : nm.size ≤ 7 := by
                obtain ⟨ds, h1, h2, _⟩ := HD.out
                have : nm.size = nm.data.toList.length := (Array.length_toList).symm
                rw [this, h1, List.length_cons]; omega
              have k1 := HCa.out.cells.2.2.1.2.1
              have k2 := (HCa.out.cells.2.2.2 1).2
              have HQ : Hid (r < 6 ∧ v / 10 < 10 ^ (6 - (r + 1)) ∧ Dg (nm ++ t) (r + 1)) := by
                have hv := HV.out
                have hr6 : r < 6 := by
                  by_cases e : r = 6
                  · subst e; simp at hv; omega
                  · omega
                refine ⟨hr6, ?_, HD.out.step (UInt8.ofNat (48 + v % 10)) ?_ ?_⟩
                · have e : 6 - r = (6 - (r + 1)) + 1 := by omega
                  rw [e, Nat.pow_succ] at hv
                  omega
                · rw [UInt8.toNat_ofNat']; omega
                · rw [← HT.out]; simp
              have hvb : v < 1000000 := Nat.lt_of_lt_of_le HV.out (Nat.pow_le_pow_right (by omega) (by omega) : 10 ^ (6 - r) ≤ 10 ^ 6)
              have HW : Hid (wrap64 ((v : Int) / 10) = ((v / 10 : Nat) : Int)) := by
                show wrap64 ((v : Int) / 10) = _
                unfold wrap64; omega
              go_wp2
              try rw [HW.out]
              refine ⟨⟨r + 1, v / 10, nm ++ t, HQ.out.1, by first | rfl | simp, HQ.out.2.1, HQ.out.2.2, HCa.out.named _⟩, ?_⟩
              simp [intOf]
              omega
end Go.Proofs.YtaaeahpmnfifiaaDoor

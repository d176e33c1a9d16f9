import Derived.Test.YtklgjagkgfbcfaaDoorRefD
namespace Go.Proofs.YtklgjagkgfbcfaaDoor
open Go.RowKit Rec

/-- all but two rows are kept -/
structure Kp (g h : Nat) (w w' : World) : Prop where
  os : w'.os = w.os
  tape : w'.tape = w.tape
  output : w'.output = w.output
  size : w.heap.size ≤ w'.heap.size
  block : ∀ k, k < w.heap.size → k ≠ g → k ≠ h → w'.heap[k]? = w.heap[k]?
theorem Kp.trans {g h : Nat} {a b c : World} (x : Kp g h a b) (y : Kp g h b c) : Kp g h a c :=
  ⟨y.os.trans x.os, y.tape.trans x.tape, y.output.trans x.output, Nat.le_trans x.size y.size, fun k hk h1 h2 => (y.block k (Nat.lt_of_lt_of_le hk x.size) h1 h2).trans (x.block k hk h1 h2)⟩
theorem kp_below {g h : Nat} {w w' : World} (x : Below w.heap.size w w') : Kp g h w w' := ⟨x.os, x.tape, x.output, x.size, fun k hk _ _ => x.block k hk⟩
theorem kp_left {g h : Nat} {w w' : World} (x : w.grownBy w' (some g)) : Kp g h w w' := ⟨x.os, x.tape, x.output, x.size, fun k hk h1 _ => x.block k hk (fun e => h1 (Option.some.inj e))⟩
theorem kp_right {g h : Nat} {w w' : World} (x : w.grownBy w' (some h)) : Kp g h w w' := ⟨x.os, x.tape, x.output, x.size, fun k hk _ h2 => x.block k hk (fun e => h2 (Option.some.inj e))⟩
theorem Kp.below {g h B : Nat} {w w' : World} (x : Kp g h w w') (h1 : B ≤ g) (h2 : B ≤ h) (h3 : B ≤ w.heap.size) : Below B w w' :=
  ⟨x.os, x.tape, x.output, x.size, fun k hk => x.block k (Nat.lt_of_lt_of_le hk h3) (by omega) (by omega)⟩
theorem Kp.tab {g h : Nat} {w w' : World} (x : Kp g h w w') (hT : TabAt w) (h1 : 0 < g) (h2 : 0 < h) : TabAt w' :=
  hT.below (x.below (B := 1) h1 h2 hT.size) (by omega)
theorem Kp.cell {g h : Nat} {w w' : World} (x : Kp g h w w') {p : Addr} {v : Value} (hc : w.cell? p = some v) (h1 : p.block ≠ g) (h2 : p.block ≠ h) : w'.cell? p = some v :=
  (World.cell?_of_block (x.block p.block (block_lt_of_cell hc) h1 h2)).trans hc

theorem putL_length (l : List Int) (a n v : Int) : (putL l a n v).length = l.length := by unfold putL; split; exact ov_length _ _ _ _; rfl
theorem ptxL_length (l : List Int) (a n : Int) (s : ByteArray) : (ptxL l a n s).length = l.length := by unfold ptxL; split; exact ov_length _ _ _ _; rfl

/-- what 'plays' leaves -/
def Left2 (w : World) (g h capg caph n : Nat) (r q : List Int) (w' : World) : Prop := ∃ l : List Int, l.length = n ∧ OwnB w' g capg (l ++ r) ∧ OwnB w' h caph (l ++ q) ∧ Kp g h w w'

set_option maxRecDepth 100000 in
set_option maxHeartbeats 2000000 in
theorem plays_any (w : World) (g h capg caph n c d : Nat) (l r q : List Int) (kind at_ N V : Int) (s : ByteArray) (hn : l.length = n) (hg : OwnB w g capg (l ++ r)) (hh : OwnB w h caph (l ++ q)) (hgh : g ≠ h) (hc : n ≤ c) (hd : n ≤ d)
    (hT : TabAt w) (g0 : 0 < g) (h0 : 0 < h) (hat : at_ ≤ 9223372036854775807) (hN : N ≤ 9223372036854775807) (hV : 0 ≤ V ∧ V < 18446744073709551616) (hs : s.size ≤ 9223372036854775807) :
    Calls Tryd.prog 15 #[.slice (some ⟨g, 0, none⟩) n c, .slice (some ⟨h, 0, none⟩) n d, .agg #[.int .i64 kind, .int .i64 at_, .int .i64 N, .int .u64 V, .string s]] w fun e w' => e = .returned (.bool true) ∧ Left2 w g h capg caph n r q w' := by
  have HBa : Hid (Below w.heap.size w (w.alloc (.cells #[.int .i64 kind, .int .i64 at_, .int .i64 N, .int .u64 V, .string s] 46))) := (Below.refl _ _).alloc (Nat.le_refl _) _
  have hrow := heap_alloc_new w (.cells #[.int .i64 kind, .int .i64 at_, .int .i64 N, .int .u64 V, .string s] 46)
  have HC : Hid (∀ j, (w.alloc (.cells #[.int .i64 kind, .int .i64 at_, .int .i64 N, .int .u64 V, .string s] 46)).cell? ⟨w.heap.size, j, none⟩ = (#[Value.int .i64 kind, .int .i64 at_, .int .i64 N, .int .u64 V, .string s])[j]?) := fun j => cell_of_row _ _ _ _ _ _ hrow
  have HL : Hid (l.length = n) := hn
  have HT : Hid (TabAt w) := hT
  have HG : Hid (OwnB w g capg (l ++ r)) := hg
  have HH : Hid (OwnB w h caph (l ++ q)) := hh
  have hgs : g ≠ w.heap.size := Nat.ne_of_lt hg.lt
  have hhs : h ≠ w.heap.size := Nat.ne_of_lt hh.lt
  clear hn hT hg hh hrow
  go_enter Tryd.func15, Tryd.ntmps15
  go_upto_region 1 with fail
  generalize hw1 : w.alloc (.cells #[.int .i64 kind, .int .i64 at_, .int .i64 N, .int .u64 V, .string s] 46) = w1 at *
  clear hw1
  have C0 : w1.cell? ⟨w.heap.size, 0, none⟩ = some (.int .i64 kind) := HC.out 0
  have C1 : w1.cell? ⟨w.heap.size, 1, none⟩ = some (.int .i64 at_) := HC.out 1
  have C2 : w1.cell? ⟨w.heap.size, 2, none⟩ = some (.int .i64 N) := HC.out 2
  have C3 : w1.cell? ⟨w.heap.size, 3, none⟩ = some (.int .u64 V) := HC.out 3
  have C4 : w1.cell? ⟨w.heap.size, 4, none⟩ = some (.string s) := HC.out 4
  have HK1 : Hid (Kp g h w w1) := kp_below HBa.out
  have HG1 : Hid (OwnB w1 g capg (l ++ r)) := HG.out.on HBa.out
  have HH1 : Hid (OwnB w1 h caph (l ++ q)) := HH.out.on HBa.out
  have HX : Hid (∀ wx, Kp g h w1 wx → wx.cell? ⟨w.heap.size, 1, none⟩ = some (.int .i64 at_) ∧ wx.cell? ⟨w.heap.size, 2, none⟩ = some (.int .i64 N) ∧ wx.cell? ⟨w.heap.size, 3, none⟩ = some (.int .u64 V) ∧ wx.cell? ⟨w.heap.size, 4, none⟩ = some (.string s)) := fun wx hx =>
    ⟨hx.cell C1 (Ne.symm hgs) (Ne.symm hhs), hx.cell C2 (Ne.symm hgs) (Ne.symm hhs), hx.cell C3 (Ne.symm hgs) (Ne.symm hhs), hx.cell C4 (Ne.symm hgs) (Ne.symm hhs)⟩
  clear HC HG HH HBa
  have HTx : Hid (∀ wx, Kp g h w1 wx → TabAt wx) := fun wx hx => (HK1.out.trans hx).tab HT.out g0 h0
  by_cases k0 : kind = 0
  · subst k0
    go_wp2_with fail
    refine (rget_any w1 h caph n d at_ N l q HL.out HH1.out hd).mono ?_
    rintro e w2 ⟨rfl, hb⟩
    have hx := HX.out _ (kp_below hb)
    obtain ⟨D1, D2, D3, D4⟩ := hx
    have HB2 : Hid (Below w1.heap.size w1 w2) := hb
    clear hb C0 C1 C2 C3 C4 D3 D4
    go_wp2_with fail
    refine (get_any w2 g capg n c at_ N l r HL.out (HG1.out.on HB2.out) hc (HTx.out _ (kp_below HB2.out)) hat).mono ?_
    rintro e w3 ⟨rfl, rfl⟩
    go_wp2
    go_ret
    exact ⟨rfl, l, HL.out, HG1.out.on HB2.out, HH1.out.on HB2.out, HK1.out.trans (kp_below HB2.out)⟩
  by_cases k1 : kind = 1
  · subst k1
    go_wp2_with fail
    refine (rput_any w1 h caph n d at_ N V l q HL.out HH1.out hd hV).mono ?_
    rintro e w2 ⟨rfl, ho, hb⟩
    obtain ⟨D1, D2, D3, D4⟩ := HX.out _ (kp_right hb)
    have HB2 : Hid (w1.grownBy w2 (some h)) := hb
    have HO2 : Hid (OwnB w2 h caph (putL l at_ N V ++ q)) := ho
    clear hb C0 C1 C2 C3 C4 D4 ho
    go_wp2_with fail
    refine (put_any w2 g capg n c at_ N V l r HL.out (HG1.out.grown HB2.out (fun e => hgh (Option.some.inj e))) hc (HTx.out _ (kp_right HB2.out)) hat hV).mono ?_
    rintro e w3 ⟨rfl, ho, hb⟩
    have HB3 : Hid (w2.grownBy w3 (some g)) := hb
    have HO3 : Hid (OwnB w3 g capg (putL l at_ N V ++ r)) := ho
    clear hb ho
    go_wp2
    go_ret
    exact ⟨rfl, putL l at_ N V, by rw [putL_length]; exact HL.out, HO3.out, HO2.out.grown HB3.out (fun e => hgh (Option.some.inj e).symm), (HK1.out.trans (kp_right HB2.out)).trans (kp_left HB3.out)⟩
  by_cases k2 : kind = 2
  · subst k2
    go_wp2_with fail
    refine (rtext_any w1 h caph n d at_ N l q HL.out HH1.out hd hN).mono ?_
    rintro e w2 ⟨rfl, rfl⟩
    go_wp2_with fail
    refine (text_any w2 g capg n c at_ N l r HL.out HG1.out hc hat).mono ?_
    rintro e w3 ⟨rfl, rfl⟩
    go_wp2
    go_ret
    exact ⟨rfl, l, HL.out, HG1.out, HH1.out, HK1.out⟩
  by_cases k3 : kind = 3
  · subst k3
    go_wp2_with fail
    refine (rptx_any w1 h caph n d at_ N s l q HL.out HH1.out hN).mono ?_
    rintro e w2 ⟨rfl, ho, hb⟩
    obtain ⟨D1, D2, D3, D4⟩ := HX.out _ (kp_right hb)
    have HB2 : Hid (w1.grownBy w2 (some h)) := hb
    have HO2 : Hid (OwnB w2 h caph (ptxL l at_ N s ++ q)) := ho
    clear hb C0 C1 C2 C3 C4 D3 ho
    go_wp2_with fail
    refine (ptx_any w2 g capg n c at_ N s l r HL.out (HG1.out.grown HB2.out (fun e => hgh (Option.some.inj e))) hc hat hs).mono ?_
    rintro e w3 ⟨rfl, ho, hb⟩
    have HB3 : Hid (w2.grownBy w3 (some g)) := hb
    have HO3 : Hid (OwnB w3 g capg (ptxL l at_ N s ++ r)) := ho
    clear hb ho
    go_wp2
    go_ret
    exact ⟨rfl, ptxL l at_ N s, by rw [ptxL_length]; exact HL.out, HO3.out, HO2.out.grown HB3.out (fun e => hgh (Option.some.inj e).symm), (HK1.out.trans (kp_right HB2.out)).trans (kp_left HB3.out)⟩
  by_cases k4 : kind = 4
  · subst k4
    go_wp2_with fail
    refine (rzero_any w1 h caph n d at_ N l q HL.out HH1.out hd hN).mono ?_
    rintro e w2 ⟨rfl, rfl⟩
    go_wp2_with fail
    refine (zero_any w2 g capg n c at_ N l r HL.out HG1.out hc hat).mono ?_
    rintro e w3 ⟨rfl, rfl⟩
    go_wp2
    go_ret
    exact ⟨rfl, l, HL.out, HG1.out, HH1.out, HK1.out⟩
  · go_wp2
    go_ret
    exact ⟨rfl, l, HL.out, HG1.out, HH1.out, HK1.out⟩
end Go.Proofs.YtklgjagkgfbcfaaDoor

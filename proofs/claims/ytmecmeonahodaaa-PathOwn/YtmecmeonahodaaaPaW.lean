import Derived.Test.YtmecmeonahodaaaKPaU
import Derived.WalkKit
namespace Go.Proofs.Ytmecmeonahodaaa
open Go.RowKit Go.Shelf Pa
/-- a row of texts of one's own, that may be empty without being nil -/
def Ow (w : World) (base : Nat) (v : Value) (xs : List ByteArray) : Prop := w.ownsRow base 9 1 v xs.length (xs.map Value.string)
theorem Ow.cases {w : World} {base : Nat} {v : Value} {xs : List ByteArray} (h : Ow w base v xs) : (xs = [] ∧ v = .slice none 0 0) ∨ ∃ g cap, v = .slice (some ⟨g, 0, none⟩) xs.length cap ∧ base ≤ g ∧ xs.length ≤ cap ∧ cap ≤ 9223372036854775807 := by
  rcases h.2 with ⟨e, e2⟩ | ⟨g, cap, cur, e1, e2, e3, e4, e5, _⟩
  · exact .inl ⟨List.eq_nil_of_length_eq_zero e2, e⟩
  · exact .inr ⟨g, cap, e1, e2, e4, e5⟩
theorem Ow.cut {w : World} {base g n cap : Nat} {xs : List ByteArray} (h : Ow w base (.slice (some ⟨g, 0, none⟩) n cap) xs) (k : Nat) (hk : k ≤ xs.length) : Ow w base (.slice (some ⟨g, 0, none⟩) k cap) (xs.take k) := by
  rcases h.2 with ⟨e, _⟩ | ⟨g', cap', cur, e1, e2, e3, e4, e5, e6, e7⟩
  · cases e
  · cases e1
    refine ⟨by simp, .inr ⟨g, cap, cur, by rw [List.length_take, Nat.min_eq_left hk], e2, e3, by rw [List.length_take]; omega, e5, e6, ?_⟩⟩
    rw [List.length_take, Nat.min_eq_left hk, Nat.mul_one]
    rw [Nat.mul_one] at e7
    rw [List.map_take, ← e7, List.take_take, Nat.min_eq_left hk]
theorem Ow.strs {w : World} {base : Nat} {v : Value} {xs : List ByteArray} (h : Ow w base v xs) : ∃ a c, v = .slice a xs.length c ∧ StrsAt w a xs ∧ xs.length ≤ c := by
  rcases h.2 with ⟨e, e2⟩ | ⟨g, cap, cur, e1, e2, e3, e4, e5, e6, e7⟩
  · have := List.eq_nil_of_length_eq_zero e2
    subst this
    exact ⟨none, 0, e, .inl rfl, Nat.le_refl _⟩
  · refine ⟨_, cap, e1, .inr ⟨g, 0, rfl, fun j x hj => ?_⟩, e4⟩
    have := World.ownsRow.cells h (g := g) (by rw [e1]; rfl) j (.string x) (by rw [List.getElem?_map, hj]; rfl)
    rw [Nat.zero_add]
    cases j with
    | zero => simpa [Addr.add] using this
    | succ j => simpa [Addr.add] using this
theorem Ow.on {w w' : World} {b : Nat} {v : Value} {xs : List ByteArray} (h : Ow w b v xs) (hb : Below w.heap.size w w') : Ow w' b v xs := by
  refine World.ownsRow.kept h (grown_of hb .none) ?_
  cases e : v.ownBlock
  · exact .inl rfl
  · exact .inr (by simp)
theorem Ow.nil (w : World) (base : Nat) : Ow w base (.slice none 0 0) [] := World.ownsRow_nil _ _ _ _
theorem Ow.sl {w : World} {base : Nat} {v : Value} {xs : List ByteArray} (h : Sl w base v xs) : Ow w base v xs := h.row
/-- append of one text to it -/
theorem Ow.append {w : World} {base : Nat} {v : Value} {xs : List ByteArray} (h : Ow w base v xs) (x : ByteArray) (hl : xs.length ≤ 1000000) (hb : base ≤ w.heap.size) :
    ∃ g cap w', (Builtin.append_ #[24, 24] 24 #[v, .slice (some ⟨w.heap.size, 0, none⟩) 1 1]).run Try.prog (w.alloc (.cells #[.string x] 9)) = .ok (.slice (some ⟨g, 0, none⟩) (xs.length + 1) cap) w' ∧ Ow w' base (.slice (some ⟨g, 0, none⟩) (xs.length + 1) cap) (xs ++ [x]) ∧ ∀ w0, Below base w0 w → Below base w0 w' := by
  obtain ⟨i0, hi, hz0, hz1, hz2⟩ := info_parts infoS
  have hrow := World.ownsRow.alloc h (.cells #[.string x] 9)
  obtain ⟨v', w', hr, r1, r2, _⟩ := run_append_own (P := Try.prog) _ base 24 24 9 i0 (.string ⟨#[]⟩) 1 16 Try.underlying24 hi hz0 hz1 hz2 rfl (by decide) v xs.length _ hrow ⟨w.heap.size, 0, none⟩ 1 1 [.string x] rfl
        (fun j u hu => by
          cases j with
          | zero => simp at hu; subst hu; exact cell_new w _ _
          | succ j => simp at hu) (by simp [Value.oneCell']) (by simp [maxLen]; omega) (by omega) (by simp; omega)
  obtain ⟨g', cap', rfl⟩ := ownsRow_succ r1
  refine ⟨g', cap', w', hr, ?_, fun w0 h0 => (h0.alloc hb _).grown r2 (by simp; omega) (fun r e => (World.ownsRow.lt h r e).1)⟩
  have : (xs ++ [x]).length = xs.length + 1 := by simp
  unfold Ow
  rw [this]
  simpa using r1
theorem wp_hrun {ops : Array Oper} {rest : List Oper} {o : Oper} {a : Act} {Q : Exit → Act → World → Prop} {w w' : World} {v' : Value} (hgd : o.guard = none) (s x : Operand) (t : TypeId)
    (ho : o.op = .call { callee := .builtin .append, args := #[s, x], argTypes := #[t, t] }) (hr : (Builtin.append_ #[t, t] o.type #[a.eval s, a.eval x]).run Try.prog w = .ok v' w')
    (h : wpList Try.prog ops Q rest (a.put o.dst v') w') : wpList Try.prog ops Q (o :: rest) a w := by
  refine wpList_plain hgd fun K hK => ?_
  unfold Oper.wp execOp
  simp only [ho, resolve, invoke, builtin, Sem.run_bind, Sem.run_pure, Result.andThen_ok, List.map_toArray, List.map_cons, List.map_nil, hr]
  exact hK _ _ h
theorem StrsAt.on {w w' : World} {a : Option Addr} {xs : List ByteArray} (h : StrsAt w a xs) (hb : Below w.heap.size w w') : StrsAt w' a xs := by
  rcases h with h | ⟨b, off, e, hc⟩
  · exact .inl h
  · exact .inr ⟨b, off, e, fun j x hj => (hb.cell (p := ⟨b, off + j, none⟩) (block_lt_of_cell (hc j x hj))).trans (hc j x hj)⟩
theorem w64n {m cap : Nat} (h : m ≤ cap) (h2 : cap ≤ 9223372036854775807) : wrap64 (m : Int) = (m : Int) := by unfold wrap64; omega
/-- Clean's answer -/
def CleanR (w : World) (l : Tx) (e : Ending) (w' : World) : Prop := (∃ t : ByteArray, e = .returned (.tuple #[.string t, .int .i64 (cE l)]) ∧ tx t = cS l) ∧ Below w.heap.size w w'
theorem stp_up (row : List ByteArray) (p : Tx) (h : p = [46, 46]) : stp (row.map tx) p = (row.take (row.length - 1)).map tx := by
  rw [stp, if_pos h, ← List.map_dropLast, List.dropLast_eq_take]
theorem stp_no (row : List ByteArray) (x : ByteArray) (h : tx x ≠ [46, 46]) : stp (row.map tx) (tx x) = (row ++ [x]).map tx := by
  rw [stp, if_neg h]; simp
theorem foldl_take {xs : List ByteArray} {k : Nat} {x : ByteArray} (hx : xs[k]? = some x) : ((xs.map tx).take (k + 1)).foldl stp [] = stp (((xs.map tx).take k).foldl stp []) (tx x) := by
  rw [List.take_add_one, map_at hx, List.foldl_append]; rfl
theorem foldl_len (ps : List Tx) : ∀ row, (ps.foldl stp row).length ≤ row.length + ps.length := fun row => by
  have := (cl_sublist ps row).length_le
  simpa using this
set_option maxHeartbeats 8000000 in
theorem clean_any (w : World) (s : ByteArray) (hs : s.size ≤ 9223372036854775807) : Calls Try.prog 11 #[.string s] w fun e w' => CleanR w (tx s) e w' := by
  by_cases hp : pE (tx s) = 0
  · obtain ⟨hfine, _, _, _⟩ := pE_fine hp
    have CP : Calls Try.prog 5 #[.string s] w fun e w' => (∃ v xs, e = .returned (.tuple #[v, .int .i64 0]) ∧ Sl w' w.heap.size v xs ∧ xs.map tx = cps (tx s)) ∧ Below w.heap.size w w' := (parse_any w s hs).mono (by
      rintro e w' ⟨⟨v, xs, h1, h2, h3⟩, hb⟩
      rw [pL, if_pos hp] at h3
      rw [hp] at h1
      exact ⟨⟨v, xs, h1, h2, h3⟩, hb⟩)
    have HP : Hid (pE (tx s) = 0 ∧ Fine (cps (tx s))) := ⟨hp, hfine⟩
    clear hp hfine
    go_enter Try.func11, Try.ntmps11
    go_wp2_with (first | (go_at_call 5; refine CP.mono ?_; rintro e w1 ⟨⟨v, xs, rfl, hv, hx⟩, hb1⟩; obtain ⟨a, c, rfl, hat, hnc, hcm⟩ := hv.strs; obtain ⟨n, hn⟩ : ∃ n, xs.length = n := ⟨_, rfl⟩; rw [hn] at hnc ⊢) | (go_at_call 24; refine (takes_any _).mono ?_; rintro e w2 ⟨rfl, htk, hb2⟩))
    have hn32 : n ≤ 32 := by
      have := HP.out.2.2
      rw [← hx, List.length_map, hn] at this; exact this
    have hat2 := hat.on hb2
    have HX : Hid (xs.map tx = cps (tx s) ∧ xs.length = n ∧ Below w.heap.size w w2) := ⟨hx, hn, hb1.trans (hb2.mono hb1.size)⟩
    clear hx hn hb1 hb2 hv hat
    go_loopw [6, 23] (fun s6 s23 wr => ∃ (k : Nat) (row : List ByteArray), k ≤ n ∧ s23 = .int .i64 (k : Int) ∧ Ow wr w2.heap.size s6 row ∧ row.map tx = ((xs.map tx).take k).foldl stp [] ∧ row.length ≤ k ∧ Below w2.heap.size w2 wr) (fun _ s23 _ => n - (intOf s23).toNat)
    case atStart => exact ⟨0, [], Nat.zero_le _, rfl, Ow.nil _ _, rfl, Nat.le_refl _, Below.refl _ _⟩
    case round =>
      obtain ⟨k, row, hk, rfl, how, hrow, hrk, hbr⟩ := hrel
      by_cases hlt : k < n
      · have hlt' : (k : Int) < (n : Int) := by omega
        obtain ⟨b, off, x, rfl, hxk, hc⟩ := (hat2.on hbr).at (k := k) (by rw [HX.out.2.1]; exact hlt)
        have hmem : tx x ∈ cps (tx s) := by rw [← HX.out.1]; exact List.mem_of_getElem? (map_at hxk)
        have hpart := HP.out.2.1 _ hmem
        have hlk := (htk.on hbr).look (s := x) (by rw [size_tx]; omega)
        have HR : Hid (row.map tx = ((xs.map tx).take k).foldl stp [] ∧ xs[k]? = some x) := ⟨hrow, hxk⟩
        clear hrow hxk hmem
        by_cases hup : tx x = [46, 46]
        · have e1 : goes (tx x) = true := by rw [hup]; decide
          have e2 : upN (tx x) = 1 := by rw [upN, if_pos hup]
          rw [e1, e2] at hlk
          have HU : Hid (∀ row' : List ByteArray, row'.map tx = (row.take (row.length - 1)).map tx → row'.map tx = ((xs.map tx).take (k + 1)).foldl stp []) := by
            intro row' h
            rw [h, foldl_take HR.out.2, ← HR.out.1, stp_up _ _ hup]
          clear e1 e2
          rcases how.cases with ⟨rfl, rfl⟩ | ⟨g, cap, rfl, hg1, hg2, hg3⟩
          · go_wp2
            go_roundw
            case rel => exact ⟨k + 1, [], by omega, by go_num, Ow.nil _ _, HU.out _ rfl, by simp, hbr⟩
            case measure => simp [intOf]; omega
          · obtain ⟨m, hm⟩ : ∃ m, row.length = m := ⟨_, rfl⟩
            rw [hm] at hg2
            cases m with
            | zero =>
              rw [hm] at how ⊢
              have hro : row = [] := List.eq_nil_of_length_eq_zero hm
              go_wp2
              go_roundw
              case rel => exact ⟨k + 1, [], by omega, by go_num, (by subst hro; exact how), HU.out _ (by rw [hro]; rfl), by simp, hbr⟩
              case measure => simp [intOf]; omega
            | succ j =>
              have hcut := how.cut j (by omega)
              rw [hm]
              have c1 : wrap64 ((j : Int) + 1 - 1) = (j : Int) := by unfold wrap64; omega
              have c2 : (j : Int) ≤ (cap : Int) := by omega
              have c3 : (0 : Int) ≤ (j : Int) := by omega
              go_wp2
              go_roundw
              case rel => exact ⟨k + 1, row.take j, by omega, by go_num, hcut, HU.out _ (by rw [hm]; rfl), by rw [List.length_take]; omega, hbr⟩
              case measure => simp [intOf]; omega
        · have e1 : goes (tx x) = false := by
            unfold goes
            rw [Bool.or_eq_false_iff]
            exact ⟨by simpa using hpart.1.2.1, by simpa using hup⟩
          have e2 : upN (tx x) = 0 := by rw [upN, if_neg hup]
          rw [e1, e2] at hlk
          have HU : Hid ((row ++ [x]).map tx = ((xs.map tx).take (k + 1)).foldl stp []) := by
            show _ = _
            rw [foldl_take HR.out.2, ← HR.out.1, stp_no _ _ hup]
          clear e1 e2
          obtain ⟨g', cap', w', hrun, how', hbw⟩ := how.append x (by omega) hbr.size
          have HC : Hid (Ow w' w2.heap.size (.slice (some ⟨g', 0, none⟩) (row.length + 1) cap') (row ++ [x]) ∧ Below w2.heap.size w2 w' ∧ row.length ≤ k) := ⟨how', hbw w2 hbr, hrk⟩
          clear how' hbw hrk HR hpart hup
          rcases how.cases with ⟨rfl, rfl⟩ | ⟨g, cap, rfl, hg1, hg2, hg3⟩
          · clear how hbr
            go_wp2_with (at_builtin; refine wp_hrun rfl _ _ 24 rfl hrun ?_; clear hrun)
            go_roundw
            case rel => exact ⟨k + 1, _, by omega, by go_num, HC.out.1, HU.out, by simp, HC.out.2.1⟩
            case measure => simp [intOf]; omega
          · have c1 := w64n hg2 hg3
            have c2 : (row.length : Int) ≤ (cap : Int) := Int.ofNat_le.2 hg2
            clear how hbr hg1 hg2 hg3
            obtain ⟨m, hm⟩ : ∃ m, row.length = m := ⟨_, rfl⟩
            have HL : Hid (row.length = m) := hm
            rw [hm] at c1 c2 hrun HC ⊢
            clear hm
            go_wp2_with (at_builtin; refine wp_hrun rfl _ _ 24 rfl hrun ?_; clear hrun)
            go_roundw
            case rel => exact ⟨k + 1, _, by omega, by go_num, HC.out.1, HU.out, by have := HC.out.2.2; have := HL.out; simp; omega, HC.out.2.1⟩
            case measure => simp [intOf]; omega
      · have hlt' : ¬ (k : Int) < (n : Int) := by omega
        have ek : k = n := by omega
        subst ek
        rw [List.take_of_length_le (by rw [List.length_map, HX.out.2.1]; omega), HX.out.1] at hrow
        obtain ⟨a6, c6, rfl, hs6, hl6⟩ := how.strs
        have CJ := join_any wr a6 row.length c6 row hs6 rfl (by omega) hl6
        rw [hrow] at CJ
        go_wp2_with (go_at_call 10; refine CJ.mono ?_; rintro e w3 ⟨⟨t, rfl, ht⟩, hb3⟩)
        go_ret2
        refine ⟨⟨t, ?_, ?_⟩, (HX.out.2.2.trans (hbr.mono HX.out.2.2.size)).trans (hb3.mono (Nat.le_trans HX.out.2.2.size hbr.size))⟩
        · have : jE (List.foldl stp [] (cps (tx s))) = 0 := (jE_iff _).2 (cl_fine HP.out.2)
          rw [cE, HP.out.1, ← this]; rfl
        · rw [cS, if_pos HP.out.1]; exact ht
  · have CP : Calls Try.prog 5 #[.string s] w fun e w' => e = .returned (.tuple #[.slice none 0 0, .int .i64 (pE (tx s))]) ∧ Below w.heap.size w w' := (parse_any w s hs).mono (by
      rintro e w' ⟨⟨v, xs, h1, h2, h3⟩, hb⟩
      rw [pL, if_neg hp] at h3
      refine ⟨?_, hb⟩
      rw [h1, h2.nil.2 (by simpa using h3)])
    obtain ⟨n, hn⟩ : ∃ n, pE (tx s) = n := ⟨_, rfl⟩
    rw [hn] at CP hp
    have HP : Hid (pE (tx s) = n ∧ n ≠ 0) := ⟨hn, hp⟩
    clear hn
    go_enter Try.func11, Try.ntmps11
    go_wp2_with (go_at_call 5; refine CP.mono ?_; rintro e w' ⟨rfl, hb⟩)
    go_ret2
    exact ⟨⟨_, by rw [cE, HP.out.1]; rfl, by rw [cS, HP.out.1, if_neg HP.out.2]; rfl⟩, hb⟩
end Go.Proofs.Ytmecmeonahodaaa

import Derived.Test.YtklgjagkgfbcfaaDoorTextM
import Derived.Deep.DeepCutAuto
namespace Go.Proofs.YtklgjagkgfbcfaaDoor
open Go.RowKit Rec

/-- a string's first bytes, without zeros -/
def fl (s : ByteArray) (j : Nat) : List Int := ((sb s).take j).filter (fun c => c != 0)
theorem fl_zero (s : ByteArray) : fl s 0 = [] := by simp [fl]
theorem sb_take (s : ByteArray) (j : Nat) (h : j < s.size) : (sb s).take (j + 1) = (sb s).take j ++ [nth (sb s) j] := by
  have h' : j < (sb s).length := by rw [sb_length]; exact h
  rw [List.take_succ_eq_append_getElem h']; simp [nth, List.getD, h']
theorem fl_yes (s : ByteArray) (j : Nat) (h : j < s.size) (hz : nth (sb s) j ≠ 0) : fl s (j + 1) = fl s j ++ [nth (sb s) j] := by
  unfold fl; rw [sb_take s j h, List.filter_append]; simp [hz]
theorem fl_no (s : ByteArray) (j : Nat) (h : j < s.size) (hz : nth (sb s) j = 0) : fl s (j + 1) = fl s j := by
  unfold fl; rw [sb_take s j h, List.filter_append]; simp [hz]
theorem fl_len (s : ByteArray) (j : Nat) : (fl s j).length ≤ j := by
  unfold fl
  exact Nat.le_trans (List.length_filter_le _ _) (by rw [List.length_take]; omega)
theorem fl_mem (s : ByteArray) (j : Nat) (i : Nat) (hi : i < (fl s j).length) : nth (fl s j) i ≠ 0 ∧ 0 ≤ nth (fl s j) i ∧ nth (fl s j) i < 256 := by
  have e : nth (fl s j) i = (fl s j)[i] := by simp [nth, List.getD, hi]
  have hm : (fl s j)[i] ∈ fl s j := List.getElem_mem hi
  rw [e]
  generalize (fl s j)[i] = x at *
  unfold fl at hm
  rw [List.mem_filter] at hm
  refine ⟨by simpa using hm.2, ?_⟩
  have hm2 := List.mem_of_mem_take hm.1
  unfold sb at hm2
  rw [List.mem_map] at hm2
  obtain ⟨c, _, hc⟩ := hm2
  rw [← hc]
  have := c.toNat_lt
  omega
theorem fl_wf (s : ByteArray) (j : Nat) : ∀ i, 0 ≤ nth (fl s j) i ∧ nth (fl s j) i < 256 := fun i => by
  by_cases hi : i < (fl s j).length
  · exact (fl_mem s j i hi).2
  · rw [nth_out _ _ (by omega)]; omega
theorem zero_end (S : ByteArray) : ∃ i, i < (S ++ ⟨#[0]⟩).size ∧ nth (sb (S ++ ⟨#[0]⟩)) i = 0 := by
  have e : sb (S ++ ⟨#[0]⟩) = sb S ++ [0] := by
    unfold sb
    rw [ByteArray.data_append, Array.toList_append, List.map_append]; rfl
  refine ⟨S.size, ?_, ?_⟩
  · have := sb_length (S ++ ⟨#[0]⟩)
    rw [e, List.length_append, sb_length] at this
    have h1 : ([0] : List Int).length = 1 := rfl
    omega
  · rw [e, ← sb_length, show (sb S).length = (sb S).length + 0 from rfl, nth_right]; rfl

/-- 'append(l, c)', l nil or a row of one's own -/
theorem wp_bapp {ops : Array Oper} {rest : List Oper} {o : Oper} {a : Act} {Q : Exit → Act → World → Prop} {w : World} (hgd : o.guard = none) (s x : Operand)
    (ho : o.op = .call { callee := .builtin .append, args := #[s, x], argTypes := #[22, 22] }) (B : Nat) (v : Value) (k : Nat) (l : List Int) (hk : l.length = k) (hw : ∀ i, 0 ≤ nth l i ∧ nth l i < 256) (hs : a.eval s = v) (hown : w.ownsRow B 5 1 v k (l.map (Value.int .u8)))
    (m : List Int) (pb c : Nat) (hm : m.length = 1) (hx : a.eval x = .slice (some ⟨pb, 0, none⟩) 1 c) (hb : Bytes w (some ⟨pb, 0, none⟩) m) (h47 : k + 1 ≤ 140737488355328) (hB : B ≤ w.heap.size)
    (h : ∀ g cap w', B ≤ g → OwnB w' g cap (l ++ m) → w'.ownsRow B 5 1 (.slice (some ⟨g, 0, none⟩) (k + 1) cap) (k + 1) ((l ++ m).map (Value.int .u8)) → w.grownBy w' v.ownBlock → wpList Tryd.prog ops Q rest (a.put o.dst (.slice (some ⟨g, 0, none⟩) (k + 1) cap)) w') :
    wpList Tryd.prog ops Q (o :: rest) a w := by
  obtain ⟨i0, hi, hz0, hz1, hz2⟩ := info_parts info5
  refine wpList_append_own _ hgd s x 22 ho B 5 i0 (.int .u8 0) 1 1 Tryd.underlying22 hi hz0 hz1 hz2 rfl (by decide) _ _ _ hs hown ⟨pb, 0, none⟩ 1 c (m.map (Value.int .u8)) hx (by simpa using hm) hb.news (cells_u8 m) (by unfold maxLen; omega) (by omega) hB ?_
  intro v' w' ho' hg' hnil
  rw [← List.map_append] at ho'
  have ho2 := ho'
  rcases ho'.2 with ⟨hv, h0⟩ | ⟨g', cap', cur, hv, hgB, hgr, hcap, hcm, hsz, htk⟩
  · omega
  · subst hv
    have hl : (l ++ m).length = k + 1 := by rw [List.length_append, hk, hm]
    refine h _ _ _ hgB ⟨⟨cur, hgr, by simpa using hsz, by rw [hl]; simpa using htk⟩, by rw [hl]; omega, by rw [hl]; exact hcap, hcm, wf_two hw hb.wf⟩ ho2 hg'
theorem str_opt {w : World} {a : Option Addr} {n c : Nat} {l : List Int} (hB : Bytes w a l) (hn : l.length = n) : (convert 22 9 (.slice a n c)).run Tryd.prog w = .ok (.string (strOfNums l)) w := by
  cases a with
  | none =>
    have hl := hB.nil
    subst hl
    simp at hn
    subst hn
    exact run_convert_bytes_nil (P := Tryd.prog) w 22 5 Tryd.underlying22 Tryd.underlying5 0 c 9 Tryd.underlying9
  | some p =>
    rcases hB.at_ with e | ⟨b, off, e, hc⟩
    · subst e
      simp at hn
      subst hn
      rw [run_convert_bytes_string w 22 9 5 _ 0 c Tryd.underlying22 Tryd.underlying5 Tryd.underlying9]
      have hl : (loadCells p 0).run Tryd.prog w = .ok ((([] : List Int).map (Value.int .u8)).toArray) w := by
        have := run_loadCells_list (P := Tryd.prog) w p [] (fun j v h => by simp at h)
        simpa using this
      rw [run_bytesToString w p 0 c [] hl]
      rfl
    · cases e
      exact run_convert_bytes_arg (P := Tryd.prog) w 22 5 Tryd.underlying22 Tryd.underlying5 b off n c l hn (fun i hi => hc i (by omega)) 9 Tryd.underlying9
end Go.Proofs.YtklgjagkgfbcfaaDoor

import Derived.Test.YtdheojhfgeabhaaDoorKAMath
import Derived.Deep.DeepCutAuto
import Derived.Deep.RegionLaw
namespace Go.Proofs.YtdheojhfgeabhaaDoor
open Go.RowKit Rec

theorem sizeU8 : (Tryd.prog.info? 5).map (·.size) = some 1 := by kernel_rfl
theorem copyB_run {w : World} {g cap off dLen dCap : Nat} {l : List Int} (ty : TypeId) (ad : Addr) (sLen sCap : Nat) (m : List Int) (hO : OwnB w g cap l) (hb : Bytes w (some ad) m) (hm : m.length = sLen) (hle : sLen ≤ dLen) (hfit : off + sLen ≤ l.length) :
    ∃ w', (Builtin.copy_ #[25, 25] ty #[.slice (some ⟨g, off, none⟩) dLen dCap, .slice (some ad) sLen sCap]).run Tryd.prog w = .ok (.int .i64 sLen) w' ∧ OwnB w' g cap (ov l off sLen (nth m)) ∧ Fr (fun k => k = g) w w' := by
  obtain ⟨cur, h1, h2, h3⟩ := hO.row
  have hr := hO.room
  have hlen : (m.map (Value.int .u8)).length = Nat.min sLen dLen := by
    rw [List.length_map, hm]; exact (Nat.min_eq_left hle).symm
  have hrun := run_copy_row (P := Tryd.prog) w 25 25 ty 5 g off dLen dCap ad sLen sCap cur 5 (m.map (Value.int .u8)) Tryd.underlying25 sizeU8 h1 hlen hb.news (by rw [List.length_map, hm]; omega) (cells_u8 m)
  refine ⟨_, by rw [hrun, List.length_map, hm]; rfl, ⟨⟨_, setRow_heap w g _ _ _ _ h1, ?_, ?_⟩, by rw [ov_length]; exact hO.len, by rw [ov_length]; exact hr, hO.top, fun i => wf_ov _ _ _ _ hO.wf (fun j _ => hb.wf j) i⟩, ⟨rfl, rfl, rfl, by simp [World.setRow], fun k _ hk => setRow_other w g k _ hk⟩⟩
  · rw [← Array.length_toList] at h2
    simp only [List.size_toArray, List.length_append, List.length_take, List.length_drop, List.length_map]; omega
  · rw [← Array.length_toList] at h2
    have hcut : cur.toList = l.map (Value.int .u8) ++ cur.toList.drop l.length := by rw [← h3, List.take_append_drop]
    rw [ov_length]
    show List.take l.length (cur.toList.take off ++ m.map (Value.int .u8) ++ cur.toList.drop (off + sLen)) = _
    apply List.ext_getElem?
    intro i
    by_cases hi : i < l.length
    · rw [List.getElem?_take_of_lt hi, nth_cellL _ _ (by rw [ov_length]; exact hi), nth_ov _ _ _ _ _ hi]
      have hci : cur.toList[i]? = some (.int .u8 (nth l i)) := by
        rw [← nth_cellL l i hi, ← h3, List.getElem?_take_of_lt hi]
      by_cases h4 : i < off
      · rw [if_neg (by omega), List.append_assoc, List.getElem?_append_left (by rw [List.length_take]; omega), List.getElem?_take_of_lt h4]; exact hci
      · by_cases h5 : i < off + sLen
        · rw [if_pos (by omega), List.getElem?_append_left (by rw [List.length_append, List.length_take, List.length_map]; omega), List.getElem?_append_right (by rw [List.length_take]; omega), List.length_take, show i - min off cur.toList.length = i - off by omega, nth_cellL _ _ (by omega)]
        · rw [if_neg (by omega), List.getElem?_append_right (by rw [List.length_append, List.length_take, List.length_map]; omega), List.getElem?_drop, List.length_append, List.length_take, List.length_map, show off + sLen + (i - (min off cur.toList.length + m.length)) = i by omega]; exact hci
    · rw [List.getElem?_eq_none (by rw [List.length_take]; omega), List.getElem?_eq_none (by rw [List.length_map, ov_length]; omega)]
/-- is it among what is kept? -/
def kpOf (keep : List Bool) (k : Nat) : Bool := keep.getD k false
/-- copy, as a step of a region that draws -/
theorem step_copyB {ops : Array Oper} {o : Oper} {a : Act} {w : World} {K : Act → World → Prop} {Q : Exit → Act → World → Prop} {E : Prop} (hgd : o.guard = none) (d s : Operand)
    (ho : o.op = .call { callee := .builtin .copy, args := #[d, s], argTypes := #[25, 25] }) (g cap off dLen dCap : Nat) (l : List Int) (ad : Addr) (sLen sCap : Nat) (m : List Int)
    (hd : a.eval d = .slice (some ⟨g, off, none⟩) dLen dCap) (hs : a.eval s = .slice (some ad) sLen sCap) (hO : OwnB w g cap l) (hb : Bytes w (some ad) m) (hm : m.length = sLen) (hle : sLen ≤ dLen) (hfit : off + sLen ≤ l.length)
    (h : ∀ w', OwnB w' g cap (ov l off sLen (nth m)) → Fr (fun k => k = g) w w' → K (a.put o.dst (.int .i64 sLen)) w') :
    if Region.wanted o (yielded ops a.tmps) = true then Oper.wp Tryd.prog o a w K Q else E := by
  have hw : Region.wanted o (yielded ops a.tmps) = true := by simp [Region.wanted, hgd]
  rw [if_pos hw]
  obtain ⟨w', hrun, h1, h2⟩ := copyB_run (dCap := dCap) o.type ad sLen sCap m hO hb hm hle hfit
  unfold Oper.wp
  simp only [execOp, ho, resolve, invoke, builtin, Sem.run_bind, Sem.run_pure, Result.andThen_ok, List.map_toArray, List.map_cons, List.map_nil, hd, hs, hrun]
  exact h w' h1 h2
end Go.Proofs.YtdheojhfgeabhaaDoor

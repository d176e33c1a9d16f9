import Derived.Lib.Join
import Derived.Lib.Bytealg
namespace Pa

abbrev Tx := List UInt8
/-- all pieces, the empty ones too -/
def segs : Tx → List Tx
  | [] => [[]]
  | c :: l => if c = 47 then [] :: segs l else match segs l with
    | [] => [[c]]
    | p :: ps => (c :: p) :: ps
theorem segs_ne : ∀ l, segs l ≠ []
  | [] => by simp [segs]
  | c :: l => by
    unfold segs
    split
    · simp
    · split <;> simp
theorem segs_slash (l : Tx) : segs (47 :: l) = [] :: segs l := by simp [segs]
theorem segs_other {c : UInt8} (h : c ≠ 47) (l : Tx) : ∃ p ps, segs l = p :: ps ∧ segs (c :: l) = (c :: p) :: ps := by
  cases e : segs l with
  | nil => exact absurd e (segs_ne l)
  | cons p ps => exact ⟨p, ps, rfl, by simp [segs, h, e]⟩
theorem segs_app : ∀ (a b : Tx), segs (a ++ 47 :: b) = segs a ++ segs b
  | [], b => by simp [segs]
  | c :: a, b => by
    by_cases h : c = 47
    · subst h
      rw [List.cons_append, segs_slash, segs_slash, segs_app a b, List.cons_append]
    · obtain ⟨p, ps, e1, e2⟩ := segs_other h a
      obtain ⟨q, qs, f1, f2⟩ := segs_other h (a ++ 47 :: b)
      rw [segs_app a b, e1, List.cons_append] at f1
      obtain ⟨rfl, rfl⟩ := List.cons.inj f1
      rw [List.cons_append, f2, e2, List.cons_append]
theorem segs_one : ∀ (a : Tx), (47 : UInt8) ∉ a → segs a = [a]
  | [], _ => rfl
  | c :: a, h => by
    have hc : c ≠ 47 := fun e => h (by simp [e])
    obtain ⟨p, ps, e1, e2⟩ := segs_other hc a
    rw [segs_one a (fun x => h (List.mem_cons_of_mem _ x))] at e1
    obtain ⟨rfl, rfl⟩ := List.cons.inj e1
    exact e2
/-- how long they are together -/
def lens (ps : List Tx) : Nat := (ps.map (fun p => p.length + 1)).sum
theorem lens_nil : lens [] = 0 := rfl
theorem lens_cons (p : Tx) (ps : List Tx) : lens (p :: ps) = p.length + 1 + lens ps := by simp [lens]
theorem lens_app (a b : List Tx) : lens (a ++ b) = lens a + lens b := by simp [lens]
theorem segs_lens : ∀ l, lens (segs l) = l.length + 1
  | [] => rfl
  | c :: l => by
    by_cases h : c = 47
    · subst h
      rw [segs_slash, lens_cons, segs_lens l]; simp; omega
    · obtain ⟨p, ps, e1, e2⟩ := segs_other h l
      have := segs_lens l
      rw [e1, lens_cons] at this
      rw [e2, lens_cons]; simp; omega
theorem lens_sub {a b : List Tx} (h : a.Sublist b) : lens a ≤ lens b := by
  induction h with
  | slnil => exact Nat.le_refl _
  | cons x _ ih => rw [lens_cons]; omega
  | cons_cons x _ ih => rw [lens_cons, lens_cons]; omega
theorem segs_mem : ∀ (l : Tx) (p : Tx), p ∈ segs l → (47 : UInt8) ∉ p ∧ ∀ c, c ∈ p → c ∈ l
  | [], p, h => by simp [segs] at h; subst h; simp
  | c :: l, p, h => by
    by_cases hc : c = 47
    · subst hc
      rw [segs_slash] at h
      rcases List.mem_cons.1 h with rfl | h
      · simp
      · exact ⟨(segs_mem l p h).1, fun x hx => List.mem_cons_of_mem _ ((segs_mem l p h).2 x hx)⟩
    · obtain ⟨q, ps, e1, e2⟩ := segs_other hc l
      rw [e2] at h
      rcases List.mem_cons.1 h with rfl | h
      · have hq := segs_mem l q (by rw [e1]; simp)
        refine ⟨fun x => ?_, fun x hx => ?_⟩
        · rcases List.mem_cons.1 x with e | e
          · exact hc e.symm
          · exact hq.1 e
        · rcases List.mem_cons.1 hx with rfl | e
          · simp
          · exact List.mem_cons_of_mem _ (hq.2 x e)
      · have hq := segs_mem l p (by rw [e1]; exact List.mem_cons_of_mem _ h)
        exact ⟨hq.1, fun x hx => List.mem_cons_of_mem _ (hq.2 x hx)⟩
/-- a text's pieces -/
def pcs (l : Tx) : List Tx := (segs l).filter (· ≠ [])
theorem pcs_nil : pcs [] = [] := rfl
theorem pcs_app (a b : Tx) : pcs (a ++ 47 :: b) = pcs a ++ pcs b := by simp [pcs, segs_app]
theorem pcs_slash (b : Tx) : pcs (47 :: b) = pcs b := pcs_app [] b
theorem pcs_one {a : Tx} (h : (47 : UInt8) ∉ a) (h0 : a ≠ []) : pcs a = [a] := by simp [pcs, segs_one a h, h0]
theorem pcs_mem {l p : Tx} (h : p ∈ pcs l) : p ≠ [] ∧ (47 : UInt8) ∉ p ∧ ∀ c, c ∈ p → c ∈ l := by
  unfold pcs at h
  rw [List.mem_filter] at h
  exact ⟨by simpa using h.2, segs_mem l p h.1⟩
theorem pcs_lens (l : Tx) : lens (pcs l) ≤ l.length + 1 := by rw [← segs_lens l]; exact lens_sub (List.filter_sublist)
theorem pcs_lens' {l : Tx} (h : l.head? = some 47) : lens (pcs l) ≤ l.length := by
  cases l with
  | nil => simp at h
  | cons c l =>
    simp at h; subst h
    rw [pcs_slash]
    exact pcs_lens l
/-- its components -/
def cps (l : Tx) : List Tx := (pcs l).filter (· ≠ [46])
theorem cps_app (a b : Tx) : cps (a ++ 47 :: b) = cps a ++ cps b := by simp [cps, pcs_app]
theorem cps_mem {l p : Tx} (h : p ∈ cps l) : p ≠ [] ∧ p ≠ [46] ∧ (47 : UInt8) ∉ p ∧ ∀ c, c ∈ p → c ∈ l := by
  unfold cps at h
  rw [List.mem_filter] at h
  have := pcs_mem h.1
  exact ⟨this.1, by simpa using h.2, this.2⟩
theorem cps_lens {l : Tx} (h : l.head? = some 47) : lens (cps l) ≤ l.length := Nat.le_trans (lens_sub (List.filter_sublist)) (pcs_lens' h)

def long (p : Tx) : Bool := decide (27 < p.length)
def tooLong (l : Tx) : Bool := decide (1024 < l.length) || ((cps l).any long || decide (32 < (cps l).length))
def hasC (l : Tx) (c : UInt8) : Bool := l.contains c
def hasZ (l : Tx) : Bool := hasC l 0
def sl1 (l : Tx) : Bool := l.head? == some 47
theorem sl1_iff (l : Tx) : sl1 l = true ↔ l.head? = some 47 := by simp [sl1]
theorem hasC_iff (l : Tx) (c : UInt8) : hasC l c = true ↔ c ∈ l := by simp [hasC]
theorem hasC_not (l : Tx) (c : UInt8) : hasC l c = false ↔ c ∉ l := by simp [hasC]
def noPart (p : Tx) : Bool := p == [] || p == [46] || hasC p 47 || hasZ p
def goes (p : Tx) : Bool := p == [46] || p == [46, 46]
def last (l : Tx) : Tx := (pcs l).getLast?.getD []
/-- Parse's error -/
def pE (l : Tx) : Int := if !sl1 l || hasZ l then 1 else if tooLong l then 130 else 0
def pL (l : Tx) : List Tx := if pE l = 0 then cps l else []
def tE (l : Tx) : Int := if l == [] || hasZ l then 1 else if tooLong l then 130 else 0
def tL (l : Tx) : List Tx := if tE l = 0 then cps l else []
def tT (l : Tx) : Bool := if tE l = 0 then sl1 l else false
def mE (l : Tx) : Int := if goes (last l) then 1 else pE l
def mL (l : Tx) : List Tx := if mE l = 0 then (cps l).dropLast else []
def mN (l : Tx) : Tx := if mE l = 0 then (cps l).getLast?.getD [] else []
def jE (ps : List Tx) : Int := if ps.any noPart then 1 else if decide (32 < ps.length) || ps.any long then 130 else 0
def jS (ps : List Tx) : Tx := if jE ps = 0 then 47 :: Go.Lib.join ps [47] else []
/-- what is left of components -/
def stp (row : List Tx) (p : Tx) : List Tx := if p = [46, 46] then row.dropLast else row ++ [p]
def cl (ps : List Tx) : List Tx := ps.foldl stp []
def cE (l : Tx) : Int := pE l
def cS (l : Tx) : Tx := if pE l = 0 then jS (cl (cps l)) else []
def name (p : Tx) : Bool := !noPart p && !long p && !goes p

/-- a part that may be -/
def Part (p : Tx) : Prop := p ≠ [] ∧ p ≠ [46] ∧ (47 : UInt8) ∉ p ∧ (0 : UInt8) ∉ p
theorem noPart_iff (p : Tx) : noPart p = false ↔ Part p := by
  unfold noPart hasZ Part
  rw [Bool.or_eq_false_iff, Bool.or_eq_false_iff, Bool.or_eq_false_iff, hasC_not, hasC_not]
  simp [and_assoc]
def Fine (ps : List Tx) : Prop := (∀ p, p ∈ ps → Part p ∧ p.length ≤ 27) ∧ ps.length ≤ 32
theorem jE_iff (ps : List Tx) : jE ps = 0 ↔ Fine ps := by
  unfold jE Fine
  cases h1 : ps.any noPart
  · rw [List.any_eq_false] at h1
    cases h2 : (decide (32 < ps.length) || ps.any long)
    · rw [Bool.or_eq_false_iff, List.any_eq_false] at h2
      simp only [decide_eq_false_iff_not, Nat.not_lt] at h2
      simp
      refine ⟨fun p hp => ⟨(noPart_iff p).1 (by simpa using h1 p hp), ?_⟩, h2.1⟩
      have := h2.2 p hp
      simp [long] at this; exact this
    · simp
      intro hh
      rw [Bool.or_eq_true] at h2
      rcases h2 with h2 | h2
      · simpa using h2
      · rw [List.any_eq_true] at h2
        obtain ⟨p, hp, hl⟩ := h2
        have := (hh p hp).2
        simp [long] at hl
        omega
  · simp
    intro hh
    rw [List.any_eq_true] at h1
    obtain ⟨p, hp, hn⟩ := h1
    have := (noPart_iff p).2 (hh p hp).1
    rw [this] at hn; cases hn
theorem jE_cases (ps : List Tx) : jE ps = 0 ∨ jE ps = 1 ∨ jE ps = 130 := by
  unfold jE
  split
  · exact .inr (.inl rfl)
  · split
    · exact .inr (.inr rfl)
    · exact .inl rfl
/-- a slash ahead of each -/
def fl (ps : List Tx) : Tx := (ps.map (47 :: ·)).flatten
theorem fl_cons (p : Tx) (ps : List Tx) : fl (p :: ps) = 47 :: (p ++ fl ps) := by simp [fl]
theorem join_fl (ps : List Tx) (h : ps ≠ []) : 47 :: Go.Lib.join ps [47] = fl ps := by
  cases ps with
  | nil => exact absurd rfl h
  | cons p ps =>
    rw [Go.Lib.join_cons, fl_cons]
    rfl
theorem fl_pcs : ∀ (ps : List Tx), (∀ p, p ∈ ps → Part p) → pcs (fl ps) = ps
  | [], _ => rfl
  | p :: ps, h => by
    have hp := h p (by simp)
    have ih := fl_pcs ps (fun q hq => h q (List.mem_cons_of_mem _ hq))
    rw [fl_cons, pcs_slash]
    cases ps with
    | nil => rw [show fl [] = [] from rfl, List.append_nil]; exact pcs_one hp.2.2.1 hp.1
    | cons q qs =>
      rw [fl_cons, pcs_slash] at ih
      rw [fl_cons, pcs_app, pcs_one hp.2.2.1 hp.1, ih]; rfl
theorem fl_len (ps : List Tx) : (fl ps).length = lens ps := by
  induction ps with
  | nil => rfl
  | cons p ps ih => rw [fl_cons, lens_cons]; simp [ih]; omega
theorem jS_eq {ps : List Tx} (h : Fine ps) : jS ps = if ps = [] then [47] else fl ps := by
  unfold jS
  rw [if_pos ((jE_iff ps).2 h)]
  split
  · next e => subst e; rfl
  · next e => exact join_fl ps e
theorem jS_pcs {ps : List Tx} (h : Fine ps) : pcs (jS ps) = ps := by
  rw [jS_eq h]
  split
  · next e => subst e; rfl
  · exact fl_pcs ps (fun p hp => (h.1 p hp).1)
theorem jS_cps {ps : List Tx} (h : Fine ps) : cps (jS ps) = ps := by
  unfold cps
  rw [jS_pcs h, List.filter_eq_self]
  intro p hp
  simpa using (h.1 p hp).1.2.1
theorem jS_len {ps : List Tx} (h : Fine ps) : (jS ps).length = max (lens ps) 1 := by
  rw [jS_eq h]
  split
  · next e => subst e; rfl
  · next e =>
    rw [fl_len]
    cases ps with
    | nil => exact absurd rfl e
    | cons p ps => rw [lens_cons]; omega
theorem lens_le {ps : List Tx} (h : Fine ps) : lens ps ≤ 896 := by
  have : ∀ (qs : List Tx), (∀ p, p ∈ qs → p.length ≤ 27) → lens qs ≤ 28 * qs.length := by
    intro qs
    induction qs with
    | nil => intro _; simp [lens]
    | cons q qs ih =>
      intro hq
      have h1 := hq q (by simp)
      have h2 := ih (fun p hp => hq p (List.mem_cons_of_mem _ hp))
      rw [lens_cons, List.length_cons]; omega
  have := this ps (fun p hp => (h.1 p hp).2)
  have := h.2
  omega
theorem jS_head {ps : List Tx} (h : Fine ps) : (jS ps).head? = some 47 := by
  unfold jS; rw [if_pos ((jE_iff ps).2 h)]; rfl
theorem fl_zero : ∀ (ps : List Tx), (∀ p, p ∈ ps → Part p) → (0 : UInt8) ∉ fl ps
  | [], _ => by simp [fl]
  | p :: ps, h => by
    rw [fl_cons]
    intro hm
    rcases List.mem_cons.1 hm with e | hm
    · exact absurd e (by decide)
    · rcases List.mem_append.1 hm with hm | hm
      · exact (h p (by simp)).2.2.2 hm
      · exact fl_zero ps (fun q hq => h q (List.mem_cons_of_mem _ hq)) hm
theorem jS_zero {ps : List Tx} (h : Fine ps) : hasZ (jS ps) = false := by
  rw [jS_eq h]
  split
  · rfl
  · exact (hasC_not _ _).2 (fl_zero ps (fun p hp => (h.1 p hp).1))
theorem jS_tooLong {ps : List Tx} (h : Fine ps) : tooLong (jS ps) = false := by
  unfold tooLong
  have h1 := jS_len h
  have h2 := lens_le h
  rw [jS_cps h, Bool.or_eq_false_iff, Bool.or_eq_false_iff]
  refine ⟨by simp; omega, ?_, by simpa using h.2⟩
  rw [List.any_eq_false]
  intro p hp
  simp [long]; exact (h.1 p hp).2
theorem jS_pE {ps : List Tx} (h : Fine ps) : pE (jS ps) = 0 := by
  unfold pE; rw [(sl1_iff _).2 (jS_head h), jS_zero h, jS_tooLong h]; rfl
theorem jS_ne {ps : List Tx} (h : Fine ps) : jS ps ≠ [] := fun e => by have := jS_len h; rw [e] at this; simp at this; omega
theorem jS_tE {ps : List Tx} (h : Fine ps) : tE (jS ps) = 0 := by
  unfold tE; rw [jS_zero h, jS_tooLong h]
  simp [jS_ne h]
/-- what Parse takes has fine components -/
theorem pE_fine {l : Tx} (h : pE l = 0) : Fine (cps l) ∧ l.head? = some 47 ∧ hasZ l = false ∧ tooLong l = false := by
  unfold pE at h
  cases h1 : (!sl1 l || hasZ l)
  · rw [h1] at h
    cases h2 : tooLong l
    · rw [Bool.or_eq_false_iff] at h1
      have hz : (0 : UInt8) ∉ l := (hasC_not _ _).1 h1.2
      unfold tooLong at h2
      rw [Bool.or_eq_false_iff, Bool.or_eq_false_iff, List.any_eq_false] at h2
      refine ⟨⟨fun p hp => ?_, by simpa using h2.2.2⟩, (sl1_iff l).1 (by simpa using h1.1), h1.2, rfl⟩
      have := cps_mem hp
      refine ⟨⟨this.1, this.2.1, this.2.2.1, fun hx => hz (this.2.2.2 0 hx)⟩, ?_⟩
      have := h2.2.1 p hp
      simp [long] at this; exact this
    · rw [h2] at h; simp at h
  · rw [h1] at h; simp at h
theorem pE_cases (l : Tx) : pE l = 0 ∨ pE l = 1 ∨ pE l = 130 := by
  unfold pE
  split
  · exact .inr (.inl rfl)
  · split
    · exact .inr (.inr rfl)
    · exact .inl rfl
theorem stp_sub {row : List Tx} {p : Tx} : ∀ q, q ∈ stp row p → q ∈ row ∨ q = p := by
  intro q hq
  unfold stp at hq
  split at hq
  · exact .inl (List.dropLast_subset _ hq)
  · rcases List.mem_append.1 hq with h | h
    · exact .inl h
    · exact .inr (by simpa using h)
theorem cl_sublist (ps : List Tx) (row : List Tx) : (ps.foldl stp row).Sublist (row ++ ps) := by
  induction ps generalizing row with
  | nil => simp
  | cons p ps ih =>
    rw [List.foldl_cons]
    refine (ih (stp row p)).trans ?_
    unfold stp
    split
    · exact List.Sublist.append (List.dropLast_sublist _) (List.sublist_cons_self _ _)
    · simp
theorem cl_up (ps : List Tx) : ∀ (row : List Tx), [46, 46] ∉ row → [46, 46] ∉ ps.foldl stp row := by
  induction ps with
  | nil => intro row h; exact h
  | cons p ps ih =>
    intro row h
    rw [List.foldl_cons]
    refine ih _ (fun hm => ?_)
    unfold stp at hm
    split at hm
    · exact h (List.dropLast_subset _ hm)
    · next e =>
      rcases List.mem_append.1 hm with hm | hm
      · exact h hm
      · simp at hm; exact e hm.symm
theorem cl_id (ps : List Tx) : ∀ (row : List Tx), [46, 46] ∉ ps → ps.foldl stp row = row ++ ps := by
  induction ps with
  | nil => intro row _; simp
  | cons p ps ih =>
    intro row h
    have hp : p ≠ [46, 46] := fun e => h (by simp [e])
    rw [List.foldl_cons, ih _ (fun x => h (List.mem_cons_of_mem _ x))]
    simp [stp, hp]
theorem Fine.sub {a b : List Tx} (h : Fine b) (hs : a.Sublist b) : Fine a := ⟨fun p hp => h.1 p (hs.subset hp), Nat.le_trans hs.length_le h.2⟩
theorem cl_fine {ps : List Tx} (h : Fine ps) : Fine (cl ps) := h.sub (by have := cl_sublist ps []; simpa [cl] using this)
theorem cl_cl (ps : List Tx) : cl (cl ps) = cl ps := by
  have := cl_id (cl ps) [] (cl_up ps [] (by simp))
  simpa [cl] using this
theorem cl_lens (ps : List Tx) : lens (cl ps) ≤ lens ps := lens_sub (by have := cl_sublist ps []; simpa [cl] using this)
end Pa

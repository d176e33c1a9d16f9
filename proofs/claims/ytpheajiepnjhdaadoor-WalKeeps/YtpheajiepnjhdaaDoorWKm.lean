import Derived.Test.YtpheajiepnjhdaaDoorWLc
import Derived.Test.YtpheajiepnjhdaaDoorKADo
namespace Go.Proofs.YtpheajiepnjhdaaDoor
open Go.RowKit Rec

theorem like_fw {nb : Nat} {l m : List Int} {Q : List (Nat × List Int)} (h : Like nb l m) (hl : l.length = 512 * nb) (hm : m.length = 512 * nb) (hQ : HomeOk nb Q) : Like nb (fw l Q) (fw m Q) := fun b hb hb2 => by
  by_cases c : ∃ p ∈ Q, p.1 = b
  · obtain ⟨p, hp, rfl⟩ := c
    rw [bck_fw_in _ _ nb hl hQ.len hQ.hi hQ.once p hp, bck_fw_in _ _ nb hm hQ.len hQ.hi hQ.once p hp]
  · have c' : ∀ p ∈ Q, p.1 ≠ b := fun p hp e => c ⟨p, hp, e⟩
    rw [bck_fw_out _ _ _ nb hl hQ.len hb c', bck_fw_out _ _ _ nb hm hQ.len hb c']
    exact h b hb hb2
theorem Like.trans {nb : Nat} {l m k : List Int} (h : Like nb l m) (h' : Like nb m k) : Like nb l k := fun b hb hb2 => (h b hb hb2).trans (h' b hb hb2)
theorem like_refl (nb : Nat) (l : List Int) : Like nb l l := fun _ _ _ => rfl
/-- may an act of the tape be, that much of the blocks looked at? -/
def nmd (t : Int × Int × List Int) (L : List Bk) : Bool := !(t.1 == 1) || (decide (1 ≤ t.2.1) && decide (t.2.1 ≤ 97)) || L.any (fun q => q.n == t.2.1)
def nmd0 (t : Int × Int × List Int) : Bool := !(t.1 == 1) || (decide (1 ≤ t.2.1) && decide (t.2.1 ≤ 97))
theorem nmd_zero (t : Int × Int × List Int) : nmd t [] = nmd0 t := by simp [nmd, nmd0]
theorem nmd_next (t : Int × Int × List Int) (L : List Bk) (j : Nat) (q : Bk) (hq : L[j]? = some q) : nmd t (L.take (j + 1)) = (nmd t (L.take j) || (q.n == t.2.1)) := by
  rw [take_bk hq]
  simp [nmd, Bool.or_assoc]
theorem parts_named (nb : Nat) (L : List Bk) (ok : ComOk nb (nsB L) (dsB L)) : ∀ t ∈ (grp (parts (nsB L) (dsB L))).map actT, nmd t L = true := by
  intro t ht
  obtain ⟨u, hu, rfl⟩ := List.mem_map.1 ht
  rcases grp_mem _ u hu with rfl | ⟨ws, hws, p, hp, rfl⟩
  · rfl
  · simp only [parts, List.mem_cons, List.not_mem_nil, or_false] at hws
    have low : p.1 ≤ 97 → 1 ≤ p.1 → nmd (actT (some p)) L = true := fun h1 h2 => by
      have a1 : decide (1 ≤ (p.1 : Int)) = true := by simp; omega
      have a2 : decide ((p.1 : Int) ≤ 97) = true := by simp; omega
      show (!((1 : Int) == 1) || (decide (1 ≤ (p.1 : Int)) && decide ((p.1 : Int) ≤ 97)) || _) = true
      rw [a1, a2]; rfl
    rcases hws with rfl | rfl | rfl | rfl
    · have := logW_in ok p hp
      exact low (by omega) (by omega)
    · simp only [List.mem_cons, List.not_mem_nil, or_false] at hp
      subst hp
      exact low (by show 1 ≤ 97; omega) (by show 1 ≤ 1; omega)
    · obtain ⟨i, hi, rfl⟩ := List.getElem_of_mem hp
      have hi' : i < L.length := by rw [homes_length _ _ ok.dl] at hi; simpa [nsB] using hi
      rw [homes_get]
      have e : nth (nsB L) i = (L[i]).n := nth_nsB L i _ (List.getElem?_eq_getElem hi')
      have hb := pre_bd _ _ ok.ris i (by simp [nsB]; exact hi')
      have : L.any (fun q => q.n == (((nth (nsB L) i).toNat : Nat) : Int)) = true := by
        refine List.any_eq_true.2 ⟨L[i], List.getElem_mem hi', ?_⟩
        rw [← e]
        simp
        omega
      show (_ || L.any (fun q => q.n == (((nth (nsB L) i).toNat : Nat) : Int))) = true
      rw [this, Bool.or_true]
    · simp only [List.mem_cons, List.not_mem_nil, or_false] at hp
      subst hp
      exact low (by show 1 ≤ 97; omega) (by show 1 ≤ 1; omega)
theorem BlocksAt.fr {S : Nat → Prop} {w w' : World} {b : Nat} {L : List Bk} (h : BlocksAt w b L) (x : Fr S w w') (hb : ¬ S b) (hq : ∀ q ∈ L, ¬ S q.g) : BlocksAt w' b L :=
  ⟨fun i q h1 => by
    obtain ⟨a1, a2, a3⟩ := h.at_ i q h1
    exact ⟨x.cell a1 hb, x.cell a2 hb, a3.fr x (hq q (List.mem_of_getElem? h1))⟩⟩
/-- between the commits -/
structure KI (w wr : World) (i : Nat) (D : Dk) (las W : List Int) (gw cw : Nat) : Prop where
  mine : Mine w wr D
  rest : Rest D.abs 128 las
  own : OwnB wr gw cw W
  far : w.heap.size ≤ gw
  ngw : ¬ D.has gw
  wl : W.length = 512 * 128
  like : Like 128 las W
  bw : D.wr ≤ 62 * i
  bf : D.fl ≤ 4 * i
  bt : D.tap.length ≤ 66 * i
  kp : D.keep = []
theorem KI.on {w wr w' : World} {i : Nat} {D : Dk} {las W : List Int} {gw cw : Nat} (h : KI w wr i D las W gw cw) (hb : Below wr.heap.size wr w') : KI w w' i D las W gw cw :=
  ⟨h.mine.on hb, h.rest, h.own.on hb, h.far, h.ngw, h.wl, h.like, h.bw, h.bf, h.bt, h.kp⟩
theorem KI.up {w wr : World} {i : Nat} {D : Dk} {las W : List Int} {gw cw : Nat} (h : KI w wr i D las W gw cw) : KI w wr (i + 1) D las W gw cw :=
  ⟨h.mine, h.rest, h.own, h.far, h.ngw, h.wl, h.like, by have := h.bw; omega, by have := h.bf; omega, by have := h.bt; omega, h.kp⟩
/-- behind a commit, the wanted bytes not yet brought along -/
structure KC (w wr : World) (i n : Nat) (D E : Dk) (las' W : List Int) (L : List Bk) (gw cw : Nat) : Prop where
  mine : Mine w wr E
  rest : Rest E.abs 128 las'
  d : E.d = D.d
  own : OwnB wr gw cw W
  far : w.heap.size ≤ gw
  ngw : ¬ E.has gw
  wl : W.length = 512 * 128
  like : Like 128 las' (fw W (homes (nsB L) (dsB L)))
  bw : E.wr ≤ 62 * (i + 1)
  bf : E.fl ≤ 4 * (i + 1)
  bt : E.tap.length ≤ 66 * (i + 1)
  kp : E.keep = []
  wr : E.wr = D.wr + (if n = 0 then 0 else 2 * n + 2)
  fl : E.fl = D.fl + (if n = 0 then 0 else 4)
  tp : ∃ T2, E.abs.T = D.abs.T ++ T2 ∧ ∀ t ∈ T2, nmd t L = true
  tl : D.tap.length ≤ E.tap.length
theorem commit_keeps (w wr w1 : World) (i : Nat) (D : Dk) (las W : List Int) (gw cw : Nat) (h : KI w wr i D las W gw cw) (hi : i ≤ 12) (v : Value) (L : List Bk) (hR : RowsAt wr w1 30 v L) (w2 : World) (hb : Below w1.heap.size w1 w2) (hT : TabAt w2) :
    Calls Tryd.prog 33 #[.pointer (some ⟨D.d, 0, none⟩), v] w2 fun e w' => e = .returned (.int .i64 0) ∧ ∃ E las', KC w w' i L.length D E las' W L gw cw ∧ (L = [] ∨ ∃ g c, v = .slice (some ⟨g, 0, none⟩) L.length c ∧ BlocksAt w' g L) := by
  have hlen := hR.len
  have hbb : Below wr.heap.size wr w2 := hR.bel.trans (hb.mono hR.bel.size)
  have h2 := h.on hbb
  have hR2 := hR.on hb
  by_cases h0 : L = []
  · subst h0
    obtain ⟨a, c, rfl⟩ := own_form hR.row
    refine (commit_nil w2 _ a c).mono ?_
    rintro e w' ⟨rfl, rfl⟩
    have u := h2.up
    exact ⟨rfl, D, las, ⟨u.mine, u.rest, rfl, u.own, u.far, u.ngw, u.wl, u.like, u.bw, u.bf, u.bt, u.kp, rfl, rfl, ⟨[], by simp, by intro t ht; cases ht⟩, Nat.le_refl _⟩, .inl rfl⟩
  · have hp : 0 < L.length := by cases L with
      | nil => exact absurd rfl h0
      | cons a l => simp
    have ok := hR.ok h0
    obtain ⟨g, c, rfl⟩ := own_some hR.row hp
    have hDh : ∀ b, D.has b → b < wr.heap.size := fun b hb => h.mine.hasLt b hb
    refine (commit_rest w w2 D 128 las h2.mine h2.rest hT g L.length c L hR2.blocks rfl hp ok (fun q hq e => by have := hDh _ e; have := (hR.blk q hq).2; omega) ?_).mono ?_
    · have b1 := h.bw
      have b2 := h.bf
      have b3 := h.bt
      have b4 : D.abs.T.length = D.tap.length := abs_tlen D
      exact ⟨by rw [h.rest.pen]; simp; omega, by rw [b4]; omega, by show D.wr + _ ≤ _; omega, by show D.fl + _ ≤ _; omega, by show D.keep.length ≤ _; rw [h.kp]; simp⟩
    · rintro e w' ⟨rfl, E, hM, hd, hab, hRe, hf⟩
      obtain ⟨a1, a2⟩ := all_wr D.abs (nsB L) (dsB L) ok.dl
      have hnl : (nsB L).length = L.length := by simp [nsB]
      have x1 : E.wr = D.wr + (2 * L.length + 2) := by have : E.abs.wr = _ := congrArg AD.wr hab; rw [a1, hnl] at this; exact this
      have x2 : E.fl = D.fl + 4 := by have : E.abs.fl = _ := congrArg AD.fl hab; rw [a2] at this; exact this
      have x3 : E.abs.T = D.abs.T ++ (grp (parts (nsB L) (dsB L))).map actT := by rw [hab]; rfl
      have x4 : E.keep = [] := by have : E.abs.keep = D.abs.keep := by rw [hab]; rfl
                                  exact this.trans h.kp
      have x5 : E.tap.length = D.tap.length + (2 * L.length + 6) := by
        have := congrArg List.length x3
        rw [abs_tlen, List.length_append, abs_tlen, List.length_map] at this
        rw [this]
        have hg : (grp (parts (nsB L) (dsB L))).length = 2 * (nsB L).length + 6 := by
          have := commitA_length 128 (nsB L) (dsB L) ok
          rw [commitA_grp] at this
          exact this
        rw [hg, hnl]
      have hlk : Like 128 (done las 128 (nsB L) (dsB L)) (fw W (homes (nsB L) (dsB L))) := (done_like h.rest.len h.rest.log ok).trans (like_fw h.like h.rest.len h.wl (homes_okC ok))
      have hng : ¬ E.has gw := fun e => by
        rcases hf.has gw e with e | e
        · exact h.ngw e
        · have := h2.own.lt; omega
      refine ⟨rfl, E, _, ⟨hM, hRe, hd, h2.own.fr hf.fr h.ngw, h.far, hng, h.wl, hlk, ?_, ?_, ?_, x4, ?_, ?_, ⟨_, x3, parts_named 128 L ok⟩, by omega⟩, ?_⟩
      · have := h.bw; omega
      · have := h.bf; omega
      · have := h.bt; omega
      · rw [x1, if_neg (by omega)]
      · rw [x2, if_neg (by omega)]
      · exact .inr ⟨g, c, rfl, hR2.blocks.fr hf.fr (fun e => by have := hDh _ e; have := hR.far g rfl; omega) (fun q hq e => by have := hDh _ e; have := (hR.blk q hq).2; omega)⟩
end Go.Proofs.YtpheajiepnjhdaaDoor

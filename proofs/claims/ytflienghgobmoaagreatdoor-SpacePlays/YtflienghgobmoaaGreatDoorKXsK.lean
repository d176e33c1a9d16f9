import Derived.Test.YtflienghgobmoaaGreatDoorXsJ
import Derived.Test.YtflienghgobmoaaGreatDoorKXsE
import Derived.Test.YtflienghgobmoaaGreatDoorKXsB
import Derived.Test.YtflienghgobmoaaGreatDoorKXsC
import Derived.Test.YtflienghgobmoaaGreatDoorKXmB
namespace Go.Proofs.YtflienghgobmoaaGreatDoor
open Go.RowKit Rec
/-- what is put, number and bytes -/
def prs (L : List Dn) (n : Nat) : List (Int × List Int) := (List.range n).filterMap (fun i : Nat => (lpB L (i : Nat) L.length).map (fun x => ((i : Int), x)))
def vls (L : List Dn) (n : Nat) : List (List Int) := (prs L n).map Prod.snd
theorem wl_prs (L : List Dn) : ∀ n, wl L n = (prs L n).map Prod.fst
  | 0 => rfl
  | n + 1 => by
    rw [wl_succ, wl_prs L n]
    unfold prs
    rw [List.range_succ, List.filterMap_append, List.map_append]
    congr 1
    cases h : lpB L (n : Nat) L.length <;> simp [h]
theorem prs_mem {L : List Dn} {n m : Nat} {i : Int} {x : List Int} (h : (prs L n)[m]? = some (i, x)) : lpB L i L.length = some x := by
  have := List.mem_of_getElem? h
  unfold prs at this
  obtain ⟨k, _, hk⟩ := List.mem_filterMap.1 this
  cases hl : lpB L (k : Nat) L.length with
  | none => rw [hl] at hk; cases hk
  | some y => rw [hl] at hk; simp at hk; obtain ⟨rfl, rfl⟩ := hk; exact hl
theorem s2c (w : World) (x : List Int) (hl : x.length ≤ 1000000000000000) (hx : ∀ i, 0 ≤ nth x i ∧ nth x i < 256) : ∃ w' c cur fz, (convert 9 22 (.string (strOfNums x))).run Tryz.prog w = .ok (.slice (some ⟨w.heap.size, 0, none⟩) x.length c) w' ∧ Bytes w' (some ⟨w.heap.size, 0, none⟩) x ∧ w'.heap[w.heap.size]? = some (.cells cur 5 fz) ∧ Below w.heap.size w w' := by
  have h := Lib.run_convert_string_bytes (P := Tryz.prog) w 9 22 5 (strOfNums x) Tryz.underlying9 Tryz.underlying22 Tryz.underlying5
  obtain ⟨w', c, e1, e2, e3⟩ := s2b w x hl hx
  rw [strOfNums_size] at h
  rw [h] at e1
  injection e1 with e1 e4
  subst e4
  exact ⟨_, _, _, _, h, e2, Lib.bytesWorld_at_new _ _ _, e3⟩
/-- the blocks of a commit, as they are gathered -/
structure BgL (w wr : World) (v : Value) (L : List BG) : Prop where
  row : wr.ownsRow 0 141 2 v L.length (L.flatMap (fun q => [Value.int .i64 q.n, .slice q.a q.x.length q.c]))
  each : ∀ q ∈ L, ∃ g cur fz, q.a = some ⟨g, 0, none⟩ ∧ w.heap.size ≤ g ∧ Bytes wr (some ⟨g, 0, none⟩) q.x ∧ wr.heap[g]? = some (.cells cur 5 fz)
  far : ∀ k, v.ownBlock = some k → w.heap.size ≤ k
  bel : Below w.heap.size w wr
theorem BgL.zero {w wr : World} (hb : Below w.heap.size w wr) : BgL w wr (.slice none 0 0) [] := ⟨⟨rfl, .inl ⟨rfl, rfl⟩⟩, (fun q h => by cases h), (fun k h => by cases h), hb⟩
theorem BgL.each_fr {w wr w' : World} {S : Nat → Prop} {q : BG} (h : ∃ g cur fz, q.a = some ⟨g, 0, none⟩ ∧ w.heap.size ≤ g ∧ Bytes wr (some ⟨g, 0, none⟩) q.x ∧ wr.heap[g]? = some (.cells cur 5 fz)) (x : Fr S wr w') (hS : ∀ g cur fz, w.heap.size ≤ g → wr.heap[g]? = some (.cells cur 5 fz) → ¬ S g) : ∃ g cur fz, q.a = some ⟨g, 0, none⟩ ∧ w.heap.size ≤ g ∧ Bytes w' (some ⟨g, 0, none⟩) q.x ∧ w'.heap[g]? = some (.cells cur 5 fz) := by
  obtain ⟨g, cur, fz, e, hg, hB, hz⟩ := h
  have hn := hS g cur fz hg hz
  exact ⟨g, cur, fz, e, hg, bytes_frE hB x (fun _ p hp => by cases hp; exact hn), x.heap hz hn⟩
theorem BgL.on {w wr w' : World} {v : Value} {L : List BG} (h : BgL w wr v L) (hb : Below wr.heap.size wr w') : BgL w w' v L := ⟨owns_on h.row hb, fun q hq => BgL.each_fr (h.each q hq) (below_fr hb (fun _ => False)) (fun _ _ _ _ _ e => e), h.far, h.bel.trans (hb.mono h.bel.size)⟩
theorem BgL.fr {w wr w' : World} {S : Nat → Prop} {v : Value} {L : List BG} (h : BgL w wr v L) (x : Fr S wr w') (hS : ∀ k, w.heap.size ≤ k → ¬ S k) : wr.heap.size ≤ w'.heap.size ∧ w'.ownsRow 0 141 2 v L.length (L.flatMap (fun q => [Value.int .i64 q.n, .slice q.a q.x.length q.c])) ∧ ∀ q ∈ L, ∃ g cur fz, q.a = some ⟨g, 0, none⟩ ∧ w.heap.size ≤ g ∧ Bytes w' (some ⟨g, 0, none⟩) q.x ∧ w'.heap[g]? = some (.cells cur 5 fz) :=
  ⟨x.size, owns_fr h.row x (fun k hk => hS k (h.far k hk)), fun q hq => BgL.each_fr (h.each q hq) x (fun g _ _ hg _ => hS g hg)⟩
theorem BgL.add {w wr wa w' : World} {v : Value} {L : List BG} {q : BG} {k g cap : Nat} (h : BgL w wr v L) (hk : L.length = k) (ha : Below wr.heap.size wr wa) (hq : ∃ g cur fz, q.a = some ⟨g, 0, none⟩ ∧ w.heap.size ≤ g ∧ Bytes wa (some ⟨g, 0, none⟩) q.x ∧ wa.heap[g]? = some (.cells cur 5 fz)) (h1 : w'.ownsRow 0 141 2 (.slice (some ⟨g, 0, none⟩) (k + 1) cap) (k + 1) (L.flatMap (fun q => [Value.int .i64 q.n, .slice q.a q.x.length q.c]) ++ [.int .i64 q.n, .slice q.a q.x.length q.c])) (h2 : Fr (fun k => v.ownBlock = some k) wa w') (h3 : v.ownBlock = some g ∨ wa.heap.size ≤ g) :
    BgL w w' (.slice (some ⟨g, 0, none⟩) (k + 1) cap) (L ++ [q]) := by
  subst hk
  have h' := h.on ha
  have hS : ∀ g cur fz, w.heap.size ≤ g → wa.heap[g]? = some (.cells cur 5 fz) → ¬ v.ownBlock = some g := fun g cur fz _ hz e => own_apartX h'.row hz (by decide) e
  refine ⟨?_, fun p hp => ?_, fun k hk => ?_, h'.bel.trans (h2.below _ h.far h'.bel.size)⟩
  · rw [List.length_append, List.flatMap_append, List.flatMap_cons, List.flatMap_nil, List.append_nil]; exact h1
  · rcases List.mem_append.1 hp with hp | hp
    · exact BgL.each_fr (h'.each p hp) h2 hS
    · rw [List.mem_singleton.1 hp]; exact BgL.each_fr hq h2 hS
  · cases hk
    rcases h3 with e | e
    · exact h.far _ e
    · exact Nat.le_trans h'.bel.size e
theorem bg_flat : ∀ (l : List BG) (k : Nat) (q : BG), l[k]? = some q → (l.flatMap (fun q => [Value.int .i64 q.n, .slice q.a q.x.length q.c]))[k * 2]? = some (.int .i64 q.n) ∧ (l.flatMap (fun q => [Value.int .i64 q.n, .slice q.a q.x.length q.c]))[k * 2 + 1]? = some (.slice q.a q.x.length q.c)
  | [], k, q, h => by simp at h
  | p :: r, 0, q, h => by simp at h; subst h; exact ⟨rfl, rfl⟩
  | p :: r, k + 1, q, h => by
    have := bg_flat r k q (by simpa using h)
    rw [show (k + 1) * 2 = k * 2 + 2 by omega]
    exact this
set_option maxRecDepth 100000 in
theorem r6commit_nil (w : World) (v : Value) (a : Option Addr) (c : Nat) : Calls Tryz.prog 85 #[v, .slice a 0 c] w fun e w' => e = .returned (.int .i64 0) ∧ w = w' := by
  go_enter Tryz.func85, Tryz.ntmps85
  go_wp2
  go_ret
  exact ⟨rfl, rfl⟩
/-- what a commit answers, and what the disk is behind it -/
def rcE6 (a : AD) (U : RTx) : Int := if U.ends then 61 else if wl U.row a.nb = [] then 0 else a.takeE (commitA (wl U.row a.nb) (vls U.row a.nb))
def rcA6 (a : AD) (U : RTx) : AD := if U.ends then a else if wl U.row a.nb = [] then a else a.take (commitA (wl U.row a.nb) (vls U.row a.nb))
structure RcX (w : World) (R : RDk) (U : RTx) (w' : World) (a' : AD) (R' : RDk) (j : Nat) : Prop where
  t : RT w' a' R' j
  u : RTxAt w' { U with ends := true }
  fr : Fr (fun k => R.all k ∨ k = U.u) w w'
  al : ∀ k, R'.all k → R.all k ∨ w.heap.size ≤ k
  r : R'.r = R.r
set_option maxRecDepth 100000 in
set_option maxHeartbeats 8000000 in
theorem rxcommit_any (w : World) (a : AD) (R : RDk) (j : Nat) (h : RT w a R j) (U : RTx) (hU : RTxAt w U) (hr : U.r = R.r) (hap : ∀ k, U.all k → ¬ R.all k) (ok : wl U.row a.nb = [] ∨ ComOk R.nb (wl U.row a.nb) (vls U.row a.nb)) (hj : j + 198 ≤ 1000000000) :
    Calls Tryz.prog 41 #[.pointer (some ⟨U.u, 0, none⟩)] w fun e w' => e = .returned (.int .i64 (rcE6 a U)) ∧ ∃ R', RcX w R U w' (rcA6 a U) R' (j + 198) := by
  have c2 : w.cell? ⟨U.u, 2, none⟩ = some (.bool U.ends) := hU.cell 2
  have hnb := h.tie.nb
  have hnb2 := h.r.nb0
  have CW : Hid (Calls Tryz.prog 39 #[.pointer (some ⟨U.u, 0, none⟩)] w (WrP w (wrL U a.nb))) := rwritten_any w a R j h U hU hr
  cases hen : U.ends with
  | true =>
    have hu : ({ U with ends := true } : RTx) = U := by cases U; simp at hen; subst hen; rfl
    have HP : Hid (RcX w R U w a R (j + 198)) := ⟨h.up (by omega), by rw [hu]; exact hU, Fr.refl _ _, fun _ e => .inl e, rfl⟩
    rw [hen] at c2
    unfold rcE6 rcA6
    rw [if_pos hen, if_pos hen]
    clear h hU hap ok CW
    go_enter Tryz.func41, Tryz.ntmps41
    go_wp2
    go_ret
    exact ⟨rfl, R, HP.out⟩
  | false =>
    rw [hen] at c2
    obtain ⟨E, hE⟩ : ∃ E, rcE6 a U = E := ⟨_, rfl⟩
    obtain ⟨A, hA⟩ : ∃ A, rcA6 a U = A := ⟨_, rfl⟩
    rw [hE, hA]
    unfold rcE6 at hE
    unfold rcA6 at hA
    rw [if_neg (by rw [hen]; simp)] at hE hA
    have hwr : wrL U a.nb = wl U.row a.nb := by unfold wrL; rw [if_neg (by rw [hen]; simp)]
    rw [hwr] at CW
    obtain ⟨W, hW⟩ : ∃ W, wl U.row a.nb = W := ⟨_, rfl⟩
    obtain ⟨V, hV⟩ : ∃ V, vls U.row a.nb = V := ⟨_, rfl⟩
    have hwp : W = (prs U.row a.nb).map Prod.fst := by rw [← hW, wl_prs]
    have hvp : V = (prs U.row a.nb).map Prod.snd := hV.symm
    have hWn : W.length ≤ a.nb := by rw [← hW]; exact wl_len _ _
    rw [hW] at hE hA ok CW
    rw [hV] at hE hA ok
    obtain ⟨aa, ac, ha, hD⟩ := hU.at_
    have HK : Hid (RT w a R j ∧ RTxAt w U ∧ U.r = R.r ∧ (∀ k, U.all k → ¬ R.all k) ∧ (W = [] ∨ ComOk R.nb W V) ∧ (if W = [] then 0 else a.takeE (commitA W V)) = E ∧ (if W = [] then a else a.take (commitA W V)) = A) := ⟨h, hU, hr, hap, ok, hE, hA⟩
    have HPr : Hid (W = (prs U.row a.nb).map Prod.fst ∧ V = (prs U.row a.nb).map Prod.snd ∧ DnsAt w aa U.row ∧ U.rv = .slice aa U.row.length ac) := ⟨hwp, hvp, hD, ha⟩
    obtain ⟨m, hm⟩ : ∃ m, W.length = m := ⟨_, rfl⟩
    have HM : Hid (W.length = m) := hm
    have hm16 : m ≤ 16384 := by rw [← hm]; omega
    have hlU := hU.len
    clear h hU hr hap ok hE hA hwp hvp hwr hWn hW hV ha hD hnb hnb2 hm
    obtain ⟨i1, j1, j2, j3, j4⟩ := info_parts infoBk
    go_enter Tryz.func41, Tryz.ntmps41
    go_upto_region 5 with (go_at_call 39; refine CW.out.mono ?_; rintro e w1 ⟨v, rfl, hv⟩; obtain ⟨va, vc, rfl, _⟩ := owns_slice hv.row; have H1 : Hid (OwL 3 1 w w1 (.slice va W.length vc) W.length (W.map (Value.int .i64))) := hv; rw [HM.out] at H1 ⊢; clear hv)
    clear CW c2
    have HB1 : Hid (∀ wx, Below w1.heap.size w1 wx → Below w.heap.size w wx) := fun wx hb => H1.out.bel.trans (hb.mono H1.out.bel.size)
    go_wp2
    go_loopw [3, 5, 13] (fun s3 s5 s13 wr => ∃ (i : Nat) (L : List BG), i ≤ m ∧ s13 = .int .i64 i ∧ L.length = i ∧ nsG L = W.take i ∧ dsG L = V.take i ∧ (∀ q ∈ L, q.x.length = 512) ∧ BgL w1 wr s3 L) (fun _ _ s13 _ => m - (intOf s13).toNat)
    case atStart => exact ⟨0, [], Nat.zero_le _, rfl, rfl, by simp [nsG], by simp [dsG], (fun q h => by cases h), BgL.zero (Below.refl _ _)⟩
    case round =>
      obtain ⟨i, L, him, rfl, hLl, hLn, hLd, hLx, hA⟩ := hrel
      have HA : Hid (BgL w1 wr u3 L ∧ L.length = i ∧ nsG L = W.take i ∧ dsG L = V.take i ∧ (∀ q ∈ L, q.x.length = 512)) := ⟨hA, hLl, hLn, hLd, hLx⟩
      clear hA hLl hLn hLd hLx
      have HRow : Hid (wr.ownsRow 0 141 2 u3 i (L.flatMap (fun q => [Value.int .i64 q.n, .slice q.a q.x.length q.c]))) := by
        have := HA.out.1.row; rw [HA.out.2.1] at this; exact this
      by_cases hlt : i < m
      · obtain ⟨⟨b, x⟩, hp⟩ : ∃ p, (prs U.row a.nb)[i]? = some p := ⟨_, List.getElem?_eq_getElem (by have := HM.out; rw [HPr.out.1, List.length_map] at this; omega)⟩
        have hWi : W[i]? = some b := by rw [HPr.out.1, List.getElem?_map, hp]; rfl
        have hVi : V[i]? = some x := by rw [HPr.out.2.1, List.getElem?_map, hp]; rfl
        have hlp := prs_mem hp
        obtain ⟨k, q, hk, hkn, hqk, hqb, hqx⟩ : ∃ (k : Nat) (q : Dn), k < U.row.length ∧ lpN U.row b U.row.length = (k : Int) ∧ U.row[k]? = some q ∧ q.b = b ∧ q.x = x := by
          rcases lp_some U.row b U.row.length (Nat.le_refl _) with ⟨_, e2⟩ | ⟨k, q, h1, h2, h3, h4, h5⟩
          · rw [e2] at hlp; cases hlp
          · rw [h5] at hlp; cases hlp; exact ⟨k, q, h1, h2, h3, h4, rfl⟩
        have hq := HK.out.2.1.each q (List.mem_of_getElem? hqk)
        rw [hqx, hqb] at hq
        have hWc : ∃ g, va = some ⟨g, 0, none⟩ ∧ wr.cell? ⟨g, i, none⟩ = some (.int .i64 b) := by
          have ho := owns_on H1.out.row HA.out.1.bel
          rcases ho.2 with ⟨_, e2⟩ | ⟨g, cap, cur, e2, _⟩
          · omega
          · cases e2
            refine ⟨g, rfl, ?_⟩
            have hc := World.ownsRow.cells ho (g := g) rfl i (.int .i64 b) (by rw [List.getElem?_map, hWi]; rfl)
            rw [Addr.add_lit, Nat.zero_add] at hc
            exact hc
        obtain ⟨wg, rfl, cW⟩ := hWc
        obtain ⟨db, doff, hae, hcs⟩ := HPr.out.2.2.1.resolve_left (by intro e; rw [e] at hqk; simp at hqk)
        have HC : Hid (∀ wx, Below w.heap.size w wx → wx.cell? ⟨U.u, 1, none⟩ = some (.slice (some ⟨db, doff, none⟩) U.row.length ac) ∧ wx.cell? ⟨db, doff + k * 2 + 1, none⟩ = some (.string (strOfNums x))) := fun wx hb => ⟨by rw [(HK.out.2.1.on hb).cell 1, ← hae, ← HPr.out.2.2.2]; rfl, (below_fr hb (fun _ => False)).cell (by rw [← hqx]; exact (hcs k q hqk).2) (fun e => e)⟩
        have HCP : Hid (∀ wx, Below w.heap.size w wx → Calls Tryz.prog 80 #[.pointer (some ⟨U.u, 0, none⟩), .int .i64 b] wx fun e w' => e = .returned (.int .i64 (k : Int)) ∧ Below wx.heap.size wx w') := fun wx hb => by
          have := r6put_any wx U (HK.out.2.1.on hb) b
          rw [hkn] at this; exact this
        have HS : Hid (∀ wx, ∃ w' c cur fz, (convert 9 22 (.string (strOfNums x))).run Tryz.prog wx = .ok (.slice (some ⟨wx.heap.size, 0, none⟩) x.length c) w' ∧ Bytes w' (some ⟨wx.heap.size, 0, none⟩) x ∧ w'.heap[wx.heap.size]? = some (.cells cur 5 fz) ∧ Below wx.heap.size wx w') := fun wx => s2c wx x (by have := hq.2.2.1; omega) hq.2.2.2
        have HX : Hid (W[i]? = some b ∧ V[i]? = some x ∧ DnOk ⟨b, x⟩) := ⟨hWi, hVi, hq⟩
        have hx5 := hq.2.2.1
        obtain ⟨s, hs⟩ : ∃ s, strOfNums x = s := ⟨_, rfl⟩
        obtain ⟨nU, hnU⟩ : ∃ nU, U.row.length = nU := ⟨_, rfl⟩
        rw [hs, hx5] at HS
        rw [hs] at HC
        rw [hnU] at HC hk hlU
        have hkU : (k : Int) < (nU : Int) := by omega
        clear hp hWi hVi hlp hkn hqk hqb hqx hq hcs hae hs hnU hx5
        obtain ⟨y1, y2⟩ := HC.out wr (HB1.out _ HA.out.1.bel)
        go_upto_region 7 with fail
        have hS0 : wr.drew.cell? ⟨U.u, 1, none⟩ = some (.slice (some ⟨db, doff, none⟩) nU ac) ∧ wr.drew.cell? ⟨db, doff + k * 2 + 1, none⟩ = some (.string s) := ⟨y1, y2⟩
        have HD : Hid (Below wr.heap.size wr wr.drew) := (Below.refl _ _).drew
        clear cW
        go_region_law (first
            | (refine step_own (by rfl) (.tmp 17) (.tmp 31) 138 (by rfl) 141 i1 _ 2 32 Tryz.underlying138 j1 j2 j3 j4 (by rfl) (by decide) u3 i (L.flatMap (fun q => [Value.int .i64 q.n, .slice q.a q.x.length q.c])) (by rfl) (owns_fr HRow.out (below_fr (H3.out.2.1.trans (((Below.refl w3.heap.size w3).alloc (Nat.le_refl _) _).mono H3.out.2.1.size)) (fun _ => False)) (fun _ _ e => e)) ⟨w3.heap.size, 0, none⟩ 1 1 [.int .i64 b, .slice (some ⟨w2.heap.size, 0, none⟩) 512 c3] (by rfl) (by decide) (by rfl) (news_of (heap_alloc_new w3 _) _ rfl) (by intro u hu; simp at hu; rcases hu with rfl | rfl <;> rfl) (by unfold maxLen; omega) (by omega) ?_
               intro g4 cap4 w4 h1 h2 h3
               have H4 : Hid (BgL w1 w4 (.slice (some ⟨g4, 0, none⟩) (i + 1) cap4) (L ++ [⟨b, some ⟨w2.heap.size, 0, none⟩, c3, x⟩])) := (by
                 have ha3 : Below w3.heap.size w3 (w3.alloc (.cells #[.int .i64 b, .slice (some ⟨w2.heap.size, 0, none⟩) 512 c3] 141)) := (Below.refl _ _).alloc (Nat.le_refl _) _
                 refine HA.out.1.add (k := i) (q := ⟨b, some ⟨w2.heap.size, 0, none⟩, c3, x⟩) HA.out.2.1 (H3.out.2.1.trans (ha3.mono H3.out.2.1.size)) (BgL.each_fr ⟨w2.heap.size, cur, fz, rfl, Nat.le_trans HA.out.1.bel.size H3.out.1.size, H3.out.2.2.1, H3.out.2.2.2⟩ (below_fr ha3 (fun _ => False)) (fun _ _ _ _ _ e => e)) ?_ h2 h3
                 show w4.ownsRow 0 141 2 _ (i + 1) (_ ++ [.int .i64 b, .slice (some ⟨w2.heap.size, 0, none⟩) x.length c3])
                 rw [HX.out.2.2.2.2.1]
                 exact h1)
               obtain ⟨t1, t2⟩ : w4.cell? ⟨U.u, 1, none⟩ = some (.slice (some ⟨db, doff, none⟩) nU ac) ∧ w4.cell? ⟨db, doff + k * 2 + 1, none⟩ = some (.string s) := HC.out w4 (HB1.out _ H4.out.bel)
               clear h1 h2 h3)
            | (go_simp; go_at_call 80; refine (HCP.out _ (HB1.out _ (HA.out.1.bel.trans (HD.out.mono HA.out.1.bel.size)))).mono ?_; rintro e w2 ⟨rfl, hb2⟩
               have hb2' : Below wr.heap.size wr w2 := HD.out.trans (hb2.mono HD.out.size)
               obtain ⟨w3, c3, cur, fz, hcv, hB3, hz3, hb3⟩ := HS.out w2
               have H3 : Hid (Below wr.heap.size wr w2 ∧ Below wr.heap.size wr w3 ∧ Bytes w3 (some ⟨w2.heap.size, 0, none⟩) x ∧ w3.heap[w2.heap.size]? = some (.cells cur 5 fz)) := ⟨hb2', hb2'.trans (hb3.mono hb2'.size), hB3, hz3⟩
               have hS1 := (show Hid True from trivial)
               obtain ⟨z1, z2⟩ : w2.cell? ⟨U.u, 1, none⟩ = some (.slice (some ⟨db, doff, none⟩) nU ac) ∧ w2.cell? ⟨db, doff + k * 2 + 1, none⟩ = some (.string s) := HC.out w2 (HB1.out _ (HA.out.1.bel.trans (H3.out.1.mono HA.out.1.bel.size)))
               obtain ⟨v1, v2⟩ : w3.cell? ⟨U.u, 1, none⟩ = some (.slice (some ⟨db, doff, none⟩) nU ac) ∧ w3.cell? ⟨db, doff + k * 2 + 1, none⟩ = some (.string s) := HC.out w3 (HB1.out _ (HA.out.1.bel.trans (H3.out.2.1.mono HA.out.1.bel.size)))
               clear hB3 hz3 hb3 hb2 hb2' HCP))
        all_goals
          go_wp2
          refine ⟨⟨i + 1, _, hlt, rfl, ?_, ?_, ?_, ?_, H4.out⟩, by simp [intOf]; omega⟩
          · rw [List.length_append, HA.out.2.1]; rfl
          · unfold nsG at *
            rw [List.map_append, HA.out.2.2.1, List.take_add_one, HX.out.1]; rfl
          · unfold dsG at *
            rw [List.map_append, HA.out.2.2.2.1, List.take_add_one, HX.out.2.1]; rfl
          · intro p hp
            rcases List.mem_append.1 hp with hp | hp
            · exact HA.out.2.2.2.2 p hp
            · rw [List.mem_singleton.1 hp]; exact HX.out.2.2.2.2.1
      · have hi : i = m := by omega
        subst hi
        have HF : Hid (nsG L = W ∧ dsG L = V) := ⟨by rw [HA.out.2.2.1, List.take_of_length_le (by rw [HM.out]; exact Nat.le_refl _)], by rw [HA.out.2.2.2.1, List.take_of_length_le (by have := HM.out; rw [HPr.out.1, List.length_map] at this; rw [HPr.out.2.1, List.length_map]; omega)]⟩
        obtain ⟨la, lc, hle, _⟩ := owns_slice HRow.out
        subst hle
        have hbw := HB1.out _ HA.out.1.bel
        have c2 : wr.cell? ⟨U.u, 2, none⟩ = some (.bool false) := by rw [(HK.out.2.1.on hbw).cell 2, ← hen]; rfl
        have f2 : wr.frozen? ⟨U.u, 2, none⟩ = false := (HK.out.2.1.on hbw).frozen 2
        have hx : Fr (fun k => k = U.u) wr (wr.setCell ⟨U.u, 2, none⟩ (.bool true)) := Fr.set
        obtain ⟨w5, hw5⟩ : ∃ w5, wr.setCell ⟨U.u, 2, none⟩ (.bool true) = w5 := ⟨_, rfl⟩
        have hU5 : RTxAt w5 { U with ends := true } := by
          rw [← hw5]
          exact ⟨heap_setCell_same _ _ _ _ _ _ (HK.out.2.1.on hbw).box, owns_fr (HK.out.2.1.on hbw).row hx (fun k hk e => own_apartX (HK.out.2.1.on hbw).row (HK.out.2.1.on hbw).box (by decide) (by rw [hk, e])), HK.out.2.1.len, HK.out.2.1.each⟩
        rw [hw5] at hx
        have hR5 : RT w5 a R j := (HK.out.1.on hbw).fr hx (fun k hk e => by subst e; exact HK.out.2.2.2.1 _ (.inl rfl) hk)
        have hlt : U.u < w1.heap.size := Nat.lt_of_lt_of_le (heap_lt HK.out.2.1.box) H1.out.bel.size
        obtain ⟨_, hrow5, heach5⟩ := HA.out.1.fr hx (fun k hk e => by omega)
        have H5 : Hid (RTxAt w5 { U with ends := true } ∧ RT w5 a R j ∧ Fr (fun k => k = U.u) wr w5 ∧ Below w.heap.size w wr ∧ w5.ownsRow 0 141 2 (.slice la i lc) L.length (L.flatMap (fun q => [Value.int .i64 q.n, .slice q.a q.x.length q.c])) ∧ ∀ q ∈ L, ∃ g cur fz, q.a = some ⟨g, 0, none⟩ ∧ w1.heap.size ≤ g ∧ Bytes w5 (some ⟨g, 0, none⟩) q.x ∧ w5.heap[g]? = some (.cells cur 5 fz)) := ⟨hU5, hR5, hx, hbw, hrow5, heach5⟩
        have d0 : w5.cell? ⟨U.u, 0, none⟩ = some (.pointer (some ⟨R.r, 0, none⟩)) := by rw [hU5.cell 0, ← HK.out.2.2.1]; rfl
        clear hbw hx hU5 hR5 hrow5 heach5
        have HRr : Hid (R.r = R.r) := rfl
        by_cases hz : i = 0
        · subst hz
          have hW0 : W = [] := List.eq_nil_of_length_eq_zero HM.out
          have HEA : Hid (E = 0 ∧ A = a) := ⟨by rw [← HK.out.2.2.2.2.2.1, if_pos hW0], by rw [← HK.out.2.2.2.2.2.2, if_pos hW0]⟩
          go_wp2_with (first
            | (go_at_call 85; refine (r6commit_nil w5 _ la lc).mono ?_; rintro e w6 ⟨rfl, rfl⟩)
            | (rw [hw5]; fail))
          go_ret
          refine ⟨(by rw [HEA.out.1]; rfl), R, ?_⟩
          rw [HEA.out.2]
          exact ⟨H5.out.2.1.up (by omega), H5.out.1, (below_fr H5.out.2.2.2.1 _).trans H5.out.2.2.1 (fun k e => .inl (.inr e)), fun _ e => .inl e, rfl⟩
        · have hWn0 : W ≠ [] := fun e => hz (by rw [← HM.out, e]; rfl)
          have HEA : Hid (a.takeE (commitA W V) = E ∧ a.take (commitA W V) = A) := ⟨by rw [← HK.out.2.2.2.2.2.1, if_neg hWn0], by rw [← HK.out.2.2.2.2.2.2, if_neg hWn0]⟩
          obtain ⟨g, rfl⟩ : ∃ g, la = some ⟨g, 0, none⟩ := by
            rcases H5.out.2.2.2.2.1.2 with ⟨_, e2⟩ | ⟨g, cap, cur, e2, _⟩
            · have := HA.out.2.1; omega
            · cases e2; exact ⟨g, rfl⟩
          have hCm : CmH w5 ⟨g, 0, none⟩ i L R.nb := by
            refine ⟨⟨.inr ⟨g, 0, rfl, fun k q hq => ?_⟩, fun q hq => ?_⟩, HA.out.2.1, by rw [HF.out.1, HF.out.2]; exact HK.out.2.2.2.2.1.resolve_left hWn0, HK.out.1.r.nb0.2⟩
            · obtain ⟨e0, e1⟩ := bg_flat L k q hq
              have hc := fun j u hj => World.ownsRow.cells H5.out.2.2.2.2.1 (g := g) rfl j u hj
              have t := fun j u hj => by have := hc j u hj; rw [Addr.add_lit, Nat.zero_add] at this; exact this
              rw [Nat.zero_add]
              exact ⟨t _ _ e0, t _ _ e1⟩
            · obtain ⟨g', cur, fz, e, _, hB, _⟩ := H5.out.2.2.2.2.2 q hq
              rw [e]; exact ⟨hB, fun e => by cases e⟩
          have HCm : Hid (Calls Tryz.prog 85 #[.pointer (some ⟨R.r, 0, none⟩), .slice (some ⟨g, 0, none⟩) i lc] w5 fun e w' => e = .returned (.int .i64 (a.takeE (commitA (nsG L) (dsG L)))) ∧ ∃ R', RM w5 R w' (a.take (commitA (nsG L) (dsG L))) R' (j + 198)) := r6commit_any w5 a R j H5.out.2.1 ⟨g, 0, none⟩ i lc L hCm hj (fun q hq _ p hp hR => by
            obtain ⟨g', cur, fz, e, hg', _, _⟩ := H5.out.2.2.2.2.2 q hq
            rw [e] at hp; cases hp
            have h1 : g' < w.heap.size := HK.out.1.r.lt hR
            have h2 := H1.out.bel.size
            omega)
          rw [HF.out.1, HF.out.2, HEA.out.1, HEA.out.2] at HCm
          clear hCm
          go_wp2_with (go_at_call 85; refine HCm.out.mono ?_; rintro e w6 ⟨rfl, R', hM⟩; have H6 : Hid (RM w5 R w6 A R' (j + 198)) := hM; clear hM)
          go_ret
          refine ⟨rfl, R', H6.out.t, ?_, ((below_fr H5.out.2.2.2.1 _).trans H5.out.2.2.1 (fun k e => .inl (.inr e))).trans H6.out.fr (fun k e => .inl (.inl e)), fun k e => ?_, H6.out.r⟩
          · exact H5.out.1.fr H6.out.fr (fun k hk => HK.out.2.2.2.1 k hk)
          · refine (H6.out.al k e).imp id (fun e => ?_)
            have h1 := H5.out.2.2.1.size
            have h2 := H5.out.2.2.2.1.size
            omega
end Go.Proofs.YtflienghgobmoaaGreatDoor

namespace Go.Proofs.YtflienghgobmoaaGreatDoor
open Go.RowKit Rec
/-- the program's puts beside the document's row -/
structure TU (T : Tx) (U : RTx) : Prop where
  len : T.us.length = U.row.length
  same : ∀ m, m ≤ U.row.length → ∀ i : Nat, (undo T.c (T.us.drop m) i).map Bk.x = lpB U.row (i : Nat) m
  cnt : ∀ m, m ≤ U.row.length → (lst (undo T.c (T.us.drop m)) T.nb).length ≤ 96
theorem TU.now {T : Tx} {U : RTx} (h : TU T U) (i : Nat) : (T.c i).map Bk.x = lpB U.row (i : Nat) U.row.length := by
  have := h.same U.row.length (Nat.le_refl _) i
  rw [List.drop_of_length_le (by rw [h.len]; exact Nat.le_refl _)] at this
  exact this
theorem lpB_app (L : List Dn) (q : Dn) (i : Int) : ∀ m, m ≤ L.length → lpB (L ++ [q]) i m = lpB L i m
  | 0, _ => rfl
  | m + 1, hm => by
    rw [lpB, lpB, lpB_app L q i m (by omega), List.getElem?_append_left (by omega)]
theorem lpB_last (L : List Dn) (q : Dn) (i : Int) : lpB (L ++ [q]) i (L.length + 1) = if q.b = i then some q.x else lpB L i L.length := by
  rw [lpB, List.getElem?_append_right (Nat.le_refl _), Nat.sub_self, lpB_app _ _ _ _ (Nat.le_refl _)]; rfl
theorem lpB_take (L : List Dn) (i : Int) (n : Nat) : ∀ m, m ≤ n → lpB (L.take n) i m = lpB L i m
  | 0, _ => rfl
  | m + 1, hm => by
    rw [lpB, lpB, lpB_take L i n m (by omega), List.getElem?_take_of_lt (by omega)]
/-- a Write on both sides -/
theorem TU.write {T T' : Tx} {U U' : RTx} {i : Nat} {x : List Int} {q : Bk} {u : Un} (h : TU T U) (hn : T'.nb = T.nb) (hi : i < T.nb) (hc : T'.c = ups T.c i (some q)) (hu : T'.us = T.us ++ [u]) (hui : u.i = i) (huo : u.old = T.c i) (hq : q.x = x) (hU : U'.row = U.row ++ [⟨(i : Int), x⟩]) (hr : (T.c i).isSome = true ∨ (lst T.c T.nb).length < 96) : TU T' U' := by
  have hl : U'.row.length = U.row.length + 1 := by rw [hU, List.length_append]; rfl
  have hz : undo T'.c [u] = T.c := by
    have := undo_snoc T'.c [] u
    rw [List.nil_append] at this
    rw [this, hui, huo, hc, ups_back]
    rfl
  have hd : ∀ m, m ≤ U.row.length → undo T'.c (T'.us.drop m) = undo T.c (T.us.drop m) := fun m hm => by
    rw [hu, List.drop_append_of_le_length (by rw [h.len]; exact hm), undo_snoc, hui, huo, hc, ups_back]
  have hlast : T'.us.drop (U.row.length + 1) = [] := List.drop_of_length_le (by rw [hu, List.length_append, h.len]; exact Nat.le_refl _)
  refine ⟨by rw [hu, List.length_append, h.len, hl]; rfl, fun m hm j => ?_, fun m hm => ?_⟩
  · by_cases e : m = U.row.length + 1
    · subst e
      rw [hlast, hU, lpB_last]
      show (T'.c j).map Bk.x = _
      rw [hc]
      by_cases ej : j = i
      · subst ej
        rw [ups_same, if_pos rfl]
        simp [hq]
      · rw [ups_other _ _ ej, if_neg (by intro e2; exact ej (by have : ((i : Nat) : Int) = (j : Nat) := e2; omega))]
        exact h.now j
    · have hm' : m ≤ U.row.length := by omega
      rw [hd m hm', hU, lpB_app _ _ _ _ hm']
      exact h.same m hm' j
  · by_cases e : m = U.row.length + 1
    · subst e
      rw [hlast, hn]
      show (lst T'.c T.nb).length ≤ 96
      rw [hc, lst_len_ups hi]
      have := h.cnt U.row.length (Nat.le_refl _)
      rw [List.drop_of_length_le (by rw [h.len]; exact Nat.le_refl _)] at this
      have this : (lst T.c T.nb).length ≤ 96 := this
      rcases hr with hr | hr
      · rw [if_pos hr]; exact this
      · split <;> omega
    · have hm' : m ≤ U.row.length := by omega
      rw [hd m hm', hn]
      exact h.cnt m hm'
/-- gone back on both sides -/
theorem TU.back {T T' : Tx} {U U' : RTx} {m : Nat} (h : TU T U) (hm : m ≤ U.row.length) (hn : T'.nb = T.nb) (hc : T'.c = undo T.c (T.us.drop m)) (hu : T'.us = T.us.take m) (hU : U'.row = U.row.take m) : TU T' U' := by
  have hl : U'.row.length = m := by rw [hU, List.length_take]; omega
  have hd : ∀ k, k ≤ m → undo T'.c (T'.us.drop k) = undo T.c (T.us.drop k) := fun k hk => by
    rw [hc, hu]
    have e : T.us.drop k = (T.us.take m).drop k ++ T.us.drop m := by
      conv => lhs; rw [← List.take_append_drop m T.us]
      rw [List.drop_append_of_le_length (by rw [List.length_take, h.len]; omega)]
    rw [e]
    unfold undo
    rw [List.foldr_append]
  refine ⟨by rw [hu, List.length_take, h.len, hl]; omega, fun k hk j => ?_, fun k hk => ?_⟩
  · rw [hl] at hk
    rw [hd k hk, hU, lpB_take _ _ _ _ hk]
    exact h.same k (by omega) j
  · rw [hl] at hk
    rw [hd k hk, hn]
    exact h.cnt k (by omega)
/-- the same blocks are put -/
theorem TU.lists {T : Tx} {U : RTx} (h : TU T U) (ok : COk T.c T.nb) : nsB (lst T.c T.nb) = wl U.row T.nb ∧ dsB (lst T.c T.nb) = vls U.row T.nb := by
  have e : ∀ n, (lst T.c n).map (fun q => (q.n, q.x)) = prs U.row n := fun n => by
    induction n with
    | zero => rfl
    | succ n ih =>
      unfold lst prs at ih ⊢
      rw [List.range_succ, List.filterMap_append, List.filterMap_append, List.map_append, ih]
      congr 1
      have hn := h.now n
      cases hc : T.c n with
      | none => rw [hc] at hn; simp at hn; simp [hc, ← hn]
      | some q =>
        rw [hc] at hn
        have hnum := ok.num n q hc
        simp at hn
        simp [hc, ← hn, hnum]
  constructor
  · rw [wl_prs, ← e]; unfold nsB; rw [List.map_map]; rfl
  · unfold vls; rw [← e]; unfold dsB; rw [List.map_map]; rfl
theorem TU.wlen {T : Tx} {U : RTx} (h : TU T U) (ok : COk T.c T.nb) : (wl U.row T.nb).length = (lst T.c T.nb).length := by rw [← (h.lists ok).1]; simp [nsB]
theorem TU.room {T : Tx} {U : RTx} (h : TU T U) (ok : COk T.c T.nb) (i : Nat) : (lpB U.row (i : Nat) U.row.length = none ∧ 96 ≤ (wl U.row T.nb).length) ↔ ¬ ((T.c i).isSome = true ∨ (lst T.c T.nb).length < 96) := by
  rw [h.wlen ok, ← h.now i]
  cases T.c i <;> simp
/-- both Reads tell the same -/
theorem TU.read {T : Tx} {U : RTx} {a : AD} (h : TU T U) (hn : T.nb = a.nb) (he : U.ends = false) (i : Int) : tvE T.c T.nb a.down i = rxE a U i ∧ tvX T.c T.nb a.down a.full i = rxB a U i := by
  unfold tvE rxE tvX rxB
  simp only [he, hn, Bool.false_eq_true, if_false]
  by_cases hin : 0 ≤ i ∧ i < (a.nb : Int)
  · rw [if_pos hin, if_pos hin, if_pos hin, if_pos hin]
    obtain ⟨m, rfl⟩ : ∃ m : Nat, i = (m : Int) := ⟨i.toNat, by omega⟩
    have hm := h.now m
    rw [Int.toNat_natCast]
    cases hc : T.c m with
    | none => rw [hc] at hm; simp at hm; rw [← hm]; exact ⟨rfl, rfl⟩
    | some q => rw [hc] at hm; simp at hm; rw [← hm]; exact ⟨rfl, rfl⟩
  · rw [if_neg hin, if_neg hin, if_neg hin, if_neg hin]; exact ⟨rfl, rfl⟩
theorem TU.new {T : Tx} {U : RTx} (hc : T.c = fun _ => none) (hu : T.us = []) (hU : U.row = []) : TU T U := by
  refine ⟨by rw [hu, hU]; rfl, fun m hm j => ?_, fun m hm => ?_⟩
  · rw [hU] at hm
    have : m = 0 := by simpa using hm
    subst this
    rw [hu, hc]; rfl
  · rw [hu, hc]
    show (lst (undo _ (List.drop m [])) _).length ≤ 96
    rw [List.drop_nil]
    show (lst (fun _ => none) _).length ≤ 96
    rw [lst_none]; exact Nat.zero_le _
end Go.Proofs.YtflienghgobmoaaGreatDoor

namespace Go.Proofs.YtflienghgobmoaaGreatDoor
open Go.RowKit Rec
/-- what the log of an image says -/
structure Lg6 (F : List Int) (nb k : Nat) : Prop where
  nb98 : 98 ≤ nb
  h0 : nth F 512 ≠ 0
  n : num F 520 2 = (k : Nat)
  k96 : k ≤ 96
  at_ : ∀ i, i < k → 98 ≤ num F (528 + 4 * i) 4 ∧ num F (528 + 4 * i) 4 < nb
end Go.Proofs.YtflienghgobmoaaGreatDoor

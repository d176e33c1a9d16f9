import Derived.Test.YtiblfmcnffhpdaaGreatDoorKTkN
import Derived.Test.YtiblfmcnffhpdaaGreatDoorKTkM
import Derived.Test.YtiblfmcnffhpdaaGreatDoorKKnC
namespace Go.Proofs.YtiblfmcnffhpdaaGreatDoor
open Go.RowKit Go.Maps Rec
structure TlQ (ν : Nat → Nat) (lo n Lb Lt : Nat) (p1 p2 p3 : Nat → Int) (ks : List (Int × Int)) : Prop where
  lb : Lb ≤ 16522
  lt : Lt ≤ 130
  ky : ∀ i, i < Lb → (p1 i, p2 i) ∈ ks ∧ ∃ k : Nat, k < 16522 ∧ p1 i = (k : Int) ∧ p2 i = (ν (ixP k) : Int)
  up : ∀ i, i + 1 < Lb → p1 i < p1 (i + 1)
  vals : ((List.range Lb).map p2 ++ (List.range Lt).map p3).Nodup
  good : ∀ v, v ∈ (List.range Lb).map p2 ++ (List.range Lt).map p3 → ∃ p, ν p ≠ 0 ∧ v = (ν p : Int)
theorem rng_snd (L : List (Nat × Nat)) : (List.range L.length).map (fun i => ((L.getD i (0, 0)).2 : Int)) = L.map (fun q => (q.2 : Int)) := by
  apply List.ext_getElem (by simp)
  intro i h1 h2
  have hi : i < L.length := by simpa using h1
  simp only [List.getElem_map, List.getElem_range]
  rw [List.getD_eq_getElem?_getD, List.getElem?_eq_getElem hi, Option.getD_some]
theorem rng_nat (L : List Nat) : (List.range L.length).map (fun i => (L.map fun (x : Nat) => (x : Int)).getD i 0) = L.map (fun (x : Nat) => (x : Int)) := by
  apply List.ext_getElem (by simp)
  intro i h1 h2
  have hi : i < L.length := by simpa using h1
  simp only [List.getElem_map, List.getElem_range]
  rw [List.getD_eq_getElem?_getD, List.getElem?_eq_getElem (by simpa using hi), Option.getD_some, List.getElem_map]
theorem tlQ_of {D : Dk} {T : Tx} {n : Nat} {x : Nat → Int} {ν : Nat → Nat} (hw : Wd D T n x ν) {ks : List (Int × Int)} (hnd : (ks.map Prod.fst).Nodup) (hk : ∀ z v, (z, v) ∈ ks ↔ ∃ k : Nat, k < 16522 ∧ ν (ixP k) ≠ 0 ∧ z = (k : Int) ∧ v = (ν (ixP k) : Int)) :
    TlQ ν (nD n) n (allB ν).length (allT ν).length (fun i => (((allB ν).getD i (0, 0)).1 : Int)) (fun i => (((allB ν).getD i (0, 0)).2 : Int)) (fun i => ((allT ν).map fun (x : Nat) => (x : Int)).getD i 0) ks ∧ ks.length = (allB ν).length ∧ (allB ν).length + (allT ν).length = siz ν := by
  obtain ⟨a1, a2, a3⟩ := all_siz hw
  have hlen : ks.length = (allB ν).length := by
    have := same_len hnd (nodup_mapOn (f := fun (k : Nat) => (k : Int)) a3 (fun a b _ _ e => by omega)) (fun z => by
      rw [has_keys hk, List.mem_map]
      constructor
      · rintro ⟨k, k1, k2, rfl⟩
        exact ⟨k, List.mem_map.2 ⟨(k, ν (ixP k)), (allB_mem hw _).2 ⟨k1, k2, rfl⟩, rfl⟩, rfl⟩
      · rintro ⟨k, k1, rfl⟩
        obtain ⟨q, q1, rfl⟩ := List.mem_map.1 k1
        have := (allB_mem hw q).1 q1
        exact ⟨q.1, this.1, this.2.1, rfl⟩)
    rw [List.length_map, List.length_map, List.length_map] at this
    exact this
  have hsz := siz_eq (ν := ν) a1 a2
  have hat : ∀ i, i < (allB ν).length → (allB ν).getD i (0, 0) ∈ allB ν := fun i hi => by rw [List.getD_eq_getElem?_getD, List.getElem?_eq_getElem hi]; exact List.getElem_mem hi
  have hlb : (allB ν).length ≤ 16522 := by
    have := sub_len (m := List.range 16522) a3 (fun k hk => by
      obtain ⟨q, q1, rfl⟩ := List.mem_map.1 hk
      exact List.mem_range.2 ((allB_mem hw q).1 q1).1)
    rw [List.length_map, List.length_range] at this
    exact this
  have hlt : (allT ν).length ≤ 130 := by
    have := sub_len (m := 11 :: 10 :: (List.range 128).map (140 + ·)) (tbP_nodup ν) (fun p hp => by
      have := ((tbP_mem hw p).1 hp).1
      unfold isTb isT1 at this
      rw [List.mem_cons, List.mem_cons, List.mem_map]
      rcases this with e | e | e
      · exact .inl e
      · exact .inr (.inl e)
      · exact .inr (.inr ⟨p - 140, List.mem_range.2 (by omega), by omega⟩))
    rw [List.length_cons, List.length_cons, List.length_map, List.length_range] at this
    rw [allT_pos, List.length_map]
    exact this
  have hv : (List.range (allB ν).length).map (fun i => (((allB ν).getD i (0, 0)).2 : Int)) ++ (List.range (allT ν).length).map (fun i => ((allT ν).map fun (x : Nat) => (x : Int)).getD i 0) = (((allB ν).map (fun q => ixP q.1)) ++ tbP ν).map fun p => (ν p : Int) := by
    rw [List.map_append, rng_snd, rng_nat, allT_pos, List.map_map, List.map_map]
    have e1 : (allB ν).map (fun q => (q.2 : Int)) = (allB ν).map ((fun p => (ν p : Int)) ∘ fun q => ixP q.1) := List.map_congr_left (fun q hq => by
      have := (allB_mem hw q).1 hq
      show (q.2 : Int) = (ν (ixP q.1) : Int)
      rw [this.2.2])
    rw [e1]
    rfl
  refine ⟨⟨hlb, hlt, fun i hi => ?_, fun i hi => ?_, ?_, fun v hv2 => ?_⟩, hlen, ?_⟩
  · have := (allB_mem hw _).1 (hat i hi)
    exact ⟨(hk _ _).2 ⟨_, this.1, this.2.1, rfl, by rw [this.2.2]⟩, _, this.1, rfl, by rw [this.2.2]⟩
  · have := List.pairwise_iff_getElem.1 (allB_pw hw) i (i + 1) (by omega) hi (by omega)
    show (((allB ν).getD i (0, 0)).1 : Int) < (((allB ν).getD (i + 1) (0, 0)).1 : Int)
    rw [List.getD_eq_getElem?_getD, List.getElem?_eq_getElem (by omega), List.getD_eq_getElem?_getD, List.getElem?_eq_getElem hi, Option.getD_some, Option.getD_some]
    omega
  · rw [hv]
    exact nodup_mapOn a1 (fun p q hp hq e => hw.own.inj p q ((a2 p).1 hp).2 (by omega))
  · rw [hv] at hv2
    obtain ⟨p, p1, rfl⟩ := List.mem_map.1 hv2
    exact ⟨p, ((a2 p).1 p1).2, rfl⟩
  · rw [← hsz, allT_pos, List.length_append, List.length_map, List.length_map]
def met1 (p2 : Nat → Int) (i : Nat) : List (Int × Int) := (List.range i).map fun j => (p2 j, 1)
def met2 (p2 p3 : Nat → Int) (Lb i : Nat) : List (Int × Int) := met1 p2 Lb ++ met1 p3 i
theorem met1_fst (p2 : Nat → Int) (i : Nat) : (met1 p2 i).map Prod.fst = (List.range i).map p2 := by unfold met1; rw [List.map_map]; rfl
theorem met1_succ (p2 : Nat → Int) (i : Nat) : met1 p2 (i + 1) = met1 p2 i ++ [(p2 i, 1)] := by unfold met1; rw [List.range_succ, List.map_append]; rfl
theorem met2_0 (p2 p3 : Nat → Int) (Lb : Nat) : met2 p2 p3 Lb 0 = met1 p2 Lb := by unfold met2 met1; simp
theorem met2_succ (p2 p3 : Nat → Int) (Lb i : Nat) : met2 p2 p3 Lb (i + 1) = met2 p2 p3 Lb i ++ [(p3 i, 1)] := by unfold met2; rw [met1_succ, List.append_assoc]
theorem TlQ.fresh1 {ν : Nat → Nat} {lo n Lb Lt : Nat} {p1 p2 p3 : Nat → Int} {ks : List (Int × Int)} (h : TlQ ν lo n Lb Lt p1 p2 p3 ks) {i : Nat} (hi : i < Lb) : p2 i ∉ (met1 p2 i).map Prod.fst := by
  rw [met1_fst]
  intro hm
  obtain ⟨j, j1, j2⟩ := List.mem_map.1 hm
  have j1 := List.mem_range.1 j1
  have h1 := (List.nodup_append.1 h.vals).1
  have := (List.pairwise_map.1 h1)
  have := List.pairwise_iff_getElem.1 this j i (by simp; omega) (by simpa using hi) j1
  simp at this
  exact this j2
theorem TlQ.fresh2 {ν : Nat → Nat} {lo n Lb Lt : Nat} {p1 p2 p3 : Nat → Int} {ks : List (Int × Int)} (h : TlQ ν lo n Lb Lt p1 p2 p3 ks) {i : Nat} (hi : i < Lt) : p3 i ∉ (met2 p2 p3 Lb i).map Prod.fst := by
  unfold met2
  rw [List.map_append, met1_fst, met1_fst, List.mem_append]
  have hn := List.nodup_append.1 h.vals
  rintro (hm | hm)
  · exact hn.2.2 _ hm _ (List.mem_map.2 ⟨i, List.mem_range.2 hi, rfl⟩) rfl
  · obtain ⟨j, j1, j2⟩ := List.mem_map.1 hm
    have j1 := List.mem_range.1 j1
    have := (List.pairwise_map.1 hn.2.1)
    have := List.pairwise_iff_getElem.1 this j i (by simp; omega) (by simpa using hi) j1
    simp at this
    exact this j2
theorem met2_mem {p2 p3 : Nat → Int} {Lb i : Nat} {z v : Int} (h : (z, v) ∈ met2 p2 p3 Lb i) : v = 1 ∧ z ∈ (List.range Lb).map p2 ++ (List.range i).map p3 := by
  unfold met2 met1 at h
  rw [List.mem_append]
  rcases List.mem_append.1 h with h | h
  · obtain ⟨j, j1, j2⟩ := List.mem_map.1 h
    injection j2 with e1 e2
    exact ⟨e2.symm, .inl (List.mem_map.2 ⟨j, j1, e1⟩)⟩
  · obtain ⟨j, j1, j2⟩ := List.mem_map.1 h
    injection j2 with e1 e2
    exact ⟨e2.symm, .inr (List.mem_map.2 ⟨j, j1, e1⟩)⟩
theorem met2_len (p2 p3 : Nat → Int) (Lb i : Nat) : (met2 p2 p3 Lb i).length = Lb + i := by unfold met2 met1; simp
set_option maxRecDepth 100000 in
set_option maxHeartbeats 16000000 in
theorem told_any (w0 w : World) (D : Dk) (T : Tx) (n : Nat) (h : Spc w0 w D T n) (hT : TabAt w0) (x : Nat → Int) (ν : Nat → Nat) (hw : Wd D T n x ν) (hs : Shp ν) (b : Nat) (hm : HasM w b ν) :
    Calls Tryz.prog 15 #[.pointer (some ⟨T.t, 0, none⟩), geoV n, inV x, .map (some b)] w fun e w' => e = .returned (.bool true) ∧ Below w.heap.size w w' := by
  obtain ⟨ks, hks, hk⟩ := hm
  obtain ⟨hq, hq1, hq2⟩ := tlQ_of hw (let ⟨_, _, h2⟩ := hks; h2.nd) hk
  obtain ⟨Lb, hLb⟩ : ∃ Lb, (allB ν).length = Lb := ⟨_, rfl⟩
  obtain ⟨Lt, hLt⟩ : ∃ Lt, (allT ν).length = Lt := ⟨_, rfl⟩
  obtain ⟨p1, hp1⟩ : ∃ p1 : Nat → Int, (fun i => (((allB ν).getD i (0, 0)).1 : Int)) = p1 := ⟨_, rfl⟩
  obtain ⟨p2, hp2⟩ : ∃ p2 : Nat → Int, (fun i => (((allB ν).getD i (0, 0)).2 : Int)) = p2 := ⟨_, rfl⟩
  obtain ⟨p3, hp3⟩ : ∃ p3 : Nat → Int, (fun i => ((allT ν).map fun (x : Nat) => (x : Int)).getD i 0) = p3 := ⟨_, rfl⟩
  obtain ⟨tt, htt⟩ : ∃ tt, T.t = tt := ⟨_, rfl⟩
  rw [hLb, hLt, hp1, hp2, hp3] at hq
  rw [hLb] at hq1 hq2
  rw [hLt] at hq2
  have HQ : Hid (TlQ ν (nD n) n Lb Lt p1 p2 p3 ks) := hq
  have HS : Hid (Spc w0 w D T n ∧ TabAt w0 ∧ Wd D T n x ν) := ⟨h, hT, hw⟩
  have HM : Hid (MpAt w b ks) := hks
  have HAq : Hid (∀ wx, Below w.heap.size w wx → Calls Tryz.prog 17 #[.pointer (some ⟨tt, 0, none⟩), .agg #[.int .i64 (n : Int), .int .i64 98, .int .i64 (gI n), .int .i64 (gD n), .int .i64 (gC n)], .agg #[.int .i64 (x 0), .int .i64 (x 1), .int .i64 (x 2), .int .i64 (x 3), .int .i64 (x 4), .int .i64 (x 5), .int .i64 (x 6), .int .i64 (x 7), .int .i64 (x 8), .int .i64 (x 9), .int .i64 (x 10), .int .i64 (x 11), .int .i64 (x 12), .int .i64 (x 13), .int .i64 (x 14)]] wx fun e w' => ∃ a c a' c', e = .returned (.tuple #[.slice a Lb c, .slice a' Lt c', .int .i64 0]) ∧ PrO w0 w' D T a Lb p1 p2 ∧ NuO w0 w' D T a' Lt p3 ∧ Below wx.heap.size wx w') := fun wx hb => by
    have h9 := allQ w0 wx D T n (HS.out.1.on hb) HS.out.2.1 x ν HS.out.2.2
    rw [htt, hLb, hLt, hp1, hp2, hp3] at h9
    exact h9
  have HFi : Hid (∀ wx i, Below w.heap.size w wx → i < Lb → Calls Tryz.prog 21 #[.pointer (some ⟨tt, 0, none⟩), .agg #[.int .i64 (n : Int), .int .i64 98, .int .i64 (gI n), .int .i64 (gD n), .int .i64 (gC n)], .agg #[.int .i64 (x 0), .int .i64 (x 1), .int .i64 (x 2), .int .i64 (x 3), .int .i64 (x 4), .int .i64 (x 5), .int .i64 (x 6), .int .i64 (x 7), .int .i64 (x 8), .int .i64 (x 9), .int .i64 (x 10), .int .i64 (x 11), .int .i64 (x 12), .int .i64 (x 13), .int .i64 (x 14)], .int .i64 (p1 i)] wx fun e w' => e = .returned (.tuple #[.int .i64 (p2 i), .int .i64 0]) ∧ Below wx.heap.size wx w') := fun wx i hb hi => by
    obtain ⟨_, k, k1, k2, k3⟩ := HQ.out.ky i hi
    have h9 := findQ w0 wx D T n (HS.out.1.on hb) HS.out.2.1 x ν HS.out.2.2 k k1
    rw [htt, ← k2, ← k3] at h9
    exact h9
  have HUs : Hid (∀ wx p, Below w.heap.size w wx → ν p ≠ 0 → Calls Tryz.prog 25 #[.pointer (some ⟨tt, 0, none⟩), .agg #[.int .i64 (n : Int), .int .i64 98, .int .i64 (gI n), .int .i64 (gD n), .int .i64 (gC n)], .int .i64 (ν p : Int)] wx fun e w' => e = .returned (.tuple #[.bool true, .int .i64 0]) ∧ Below wx.heap.size wx w') := fun wx p hb hp => by
    have hg := HS.out.2.2.own.good p hp
    have h9 := used_any w0 wx D T n (HS.out.1.on hb) (ν p) hg.2.1
    have e : isT (bmp D T) (ν p) = true := isT_of_fd hg.1 hg.2.1 hg.2.2
    rw [htt, e] at h9
    exact h9
  have HTk : Hid (∀ wx, Below w.heap.size w wx → Calls Tryz.prog 11 #[.map (some b)] wx fun e w' => e = .returned (.int .i64 ((Lb : Int) + (Lt : Int))) ∧ Below wx.heap.size wx w') := fun wx hb => by
    have h9 := takes_any wx b ks (HM.out.on hb) ν hs (has_keys hk)
    rw [← hq2] at h9
    exact h9
  have HNu : Hid (∀ wx, Calls Tryz.prog 13 #[.int .i64 0] wx fun e' w' => e' = .returned (.int .i64 0) ∧ wx = w') := fun wx => numQ wx 0 (by omega)
  have HNq : Hid (∀ wx, Calls Tryz.prog 13 #[.int .i64 0] wx fun e' w' => e' = .returned (.int .i64 0) ∧ w' = wx) := fun wx => (numQ wx 0 (by omega)).mono fun _ _ ⟨a, b⟩ => ⟨a, b.symm⟩
  have HLn : Hid (∀ wx ty, Below w.heap.size w wx → (Builtin.len_ #[36] ty #[.map (some b)]).run Tryz.prog wx = .ok (.int .i64 (Lb : Int)) wx) := fun wx ty hb => by
    obtain ⟨E, e1, e2⟩ := HM.out.on hb
    have := e1.len Tryz.underlying36 ty
    rw [e2.size, hq1] at this
    exact this
  have hbl := hks.lt
  have HB : Hid (b < w.heap.size) := hbl
  have hlb : (Lb : Int) ≤ 16522 := by have := hq.lb; omega
  have hlt : (Lt : Int) ≤ 130 := by have := hq.lt; omega
  rw [htt]
  clear h hT hw hs hks hk hq hq1 hq2 hLb hLt hp1 hp2 hp3 htt hbl
  unfold geoV inV
  have hmm := @run_makeMap Tryz.prog
  go_enter Tryz.func15, Tryz.ntmps15
  go_upto_region 1 with (fail)
  obtain ⟨P, hP⟩ : ∃ P, w.heap.size = P := ⟨_, rfl⟩
  obtain ⟨w1, hw1⟩ : ∃ w1, (w.alloc (.cells #[.int .i64 (n : Int), .int .i64 98, .int .i64 (gI n), .int .i64 (gD n), .int .i64 (gC n)] 29)).alloc (.cells #[.int .i64 (x 0), .int .i64 (x 1), .int .i64 (x 2), .int .i64 (x 3), .int .i64 (x 4), .int .i64 (x 5), .int .i64 (x 6), .int .i64 (x 7), .int .i64 (x 8), .int .i64 (x 9), .int .i64 (x 10), .int .i64 (x 11), .int .i64 (x 12), .int .i64 (x 13), .int .i64 (x 14)] 35) = w1 := ⟨_, rfl⟩
  have H1 : Hid (Below w.heap.size w w1 ∧ GeoAt w1 P n ∧ w1.heap[P + 1]? = some (.cells #[.int .i64 (x 0), .int .i64 (x 1), .int .i64 (x 2), .int .i64 (x 3), .int .i64 (x 4), .int .i64 (x 5), .int .i64 (x 6), .int .i64 (x 7), .int .i64 (x 8), .int .i64 (x 9), .int .i64 (x 10), .int .i64 (x 11), .int .i64 (x 12), .int .i64 (x 13), .int .i64 (x 14)] 35 (0, 0)) ∧ w.heap.size = P) := by
    refine ⟨?_, ?_, ?_, hP⟩
    · rw [← hw1]; exact ((Below.refl _ _).alloc (Nat.le_refl _) _).alloc (by simp) _
    · rw [← hw1, ← hP]; exact (Below.heap_alloc _ _ _ (by simp)).trans (heap_alloc_new _ _)
    · have := heap_alloc_new (w.alloc (.cells #[.int .i64 (n : Int), .int .i64 98, .int .i64 (gI n), .int .i64 (gD n), .int .i64 (gC n)] 29)) (.cells #[.int .i64 (x 0), .int .i64 (x 1), .int .i64 (x 2), .int .i64 (x 3), .int .i64 (x 4), .int .i64 (x 5), .int .i64 (x 6), .int .i64 (x 7), .int .i64 (x 8), .int .i64 (x 9), .int .i64 (x 10), .int .i64 (x 11), .int .i64 (x 12), .int .i64 (x 13), .int .i64 (x 14)] 35)
      rw [World.size_alloc] at this
      rw [← hw1, ← hP]; exact this
  rw [hw1, hP]
  clear hw1 hP
  obtain ⟨z0, z1, z2, z3, z4⟩ := H1.out.2.1.cells
  obtain ⟨x0, x1, x2, x3, x4, x5, x6, x7, x8, x9, x10, x11, x12, x13, x14⟩ := (⟨cell_of_row _ _ 0 _ _ _ H1.out.2.2.1, cell_of_row _ _ 1 _ _ _ H1.out.2.2.1, cell_of_row _ _ 2 _ _ _ H1.out.2.2.1, cell_of_row _ _ 3 _ _ _ H1.out.2.2.1, cell_of_row _ _ 4 _ _ _ H1.out.2.2.1, cell_of_row _ _ 5 _ _ _ H1.out.2.2.1, cell_of_row _ _ 6 _ _ _ H1.out.2.2.1, cell_of_row _ _ 7 _ _ _ H1.out.2.2.1, cell_of_row _ _ 8 _ _ _ H1.out.2.2.1, cell_of_row _ _ 9 _ _ _ H1.out.2.2.1, cell_of_row _ _ 10 _ _ _ H1.out.2.2.1, cell_of_row _ _ 11 _ _ _ H1.out.2.2.1, cell_of_row _ _ 12 _ _ _ H1.out.2.2.1, cell_of_row _ _ 13 _ _ _ H1.out.2.2.1, cell_of_row _ _ 14 _ _ _ H1.out.2.2.1⟩ : w1.cell? ⟨P + 1, 0, none⟩ = some (.int .i64 (x 0)) ∧ w1.cell? ⟨P + 1, 1, none⟩ = some (.int .i64 (x 1)) ∧ w1.cell? ⟨P + 1, 2, none⟩ = some (.int .i64 (x 2)) ∧ w1.cell? ⟨P + 1, 3, none⟩ = some (.int .i64 (x 3)) ∧ w1.cell? ⟨P + 1, 4, none⟩ = some (.int .i64 (x 4)) ∧ w1.cell? ⟨P + 1, 5, none⟩ = some (.int .i64 (x 5)) ∧ w1.cell? ⟨P + 1, 6, none⟩ = some (.int .i64 (x 6)) ∧ w1.cell? ⟨P + 1, 7, none⟩ = some (.int .i64 (x 7)) ∧ w1.cell? ⟨P + 1, 8, none⟩ = some (.int .i64 (x 8)) ∧ w1.cell? ⟨P + 1, 9, none⟩ = some (.int .i64 (x 9)) ∧ w1.cell? ⟨P + 1, 10, none⟩ = some (.int .i64 (x 10)) ∧ w1.cell? ⟨P + 1, 11, none⟩ = some (.int .i64 (x 11)) ∧ w1.cell? ⟨P + 1, 12, none⟩ = some (.int .i64 (x 12)) ∧ w1.cell? ⟨P + 1, 13, none⟩ = some (.int .i64 (x 13)) ∧ w1.cell? ⟨P + 1, 14, none⟩ = some (.int .i64 (x 14)))
  go_upto_region 2 with (go_at_call 17; refine (HAq.out _ H1.out.1).mono ?_; rintro e wa ⟨a, c, a', c', rfl, h1, h2, h3⟩; have H2 : Hid (PrO w0 wa D T a Lb p1 p2 ∧ NuO w0 wa D T a' Lt p3 ∧ Below w1.heap.size w1 wa) := ⟨h1, h2, h3⟩; clear h1 h2 h3 HAq)
  clear z0 z1 z2 z3 z4 x0 x1 x2 x3 x4 x5 x6 x7 x8 x9 x10 x11 x12 x13 x14
  have H3 : Hid (Below w.heap.size w wa) := H1.out.1.trans (H2.out.2.2.mono H1.out.1.size)
  have hln := fun ty => HLn.out wa ty H3.out
  go_upto_region 4 with (first
    | (go_at_call 13; refine (HNu.out _).mono ?_; rintro e wq ⟨rfl, rfl⟩)
    | (go_at_call 11; refine (HTk.out _ H3.out).mono ?_; rintro e wt ⟨rfl, h1⟩; have H4 : Hid (Below wa.heap.size wa wt) := h1; clear h1 HTk))
  clear hln
  go_upto_region 5 with (fail)
  obtain ⟨mb, hmb⟩ : ∃ mb, wt.heap.size = mb := ⟨_, rfl⟩
  obtain ⟨wm, hwm⟩ : ∃ wm, wt.alloc (.map #[] 0) = wm := ⟨_, rfl⟩
  have H5 : Hid (TlS w wm P n b mb Lb Lt x p1 p2 p3 a a' ks (met1 p2 0)) := by
    have b1 := H4.out
    have b2 : Below wt.heap.size wt wm := by rw [← hwm]; exact (Below.refl _ _).alloc (Nat.le_refl _) _
    have b3 : Below w.heap.size w wt := H3.out.trans (b1.mono H3.out.size)
    have bw : Below w1.heap.size w1 wm := (H2.out.2.2.trans (b1.mono H2.out.2.2.size)).trans (b2.mono (Nat.le_trans H2.out.2.2.size b1.size))
    have hz1 := heap_lt H1.out.2.2.1
    have hsz : w1.heap.size ≤ wt.heap.size := Nat.le_trans H2.out.2.2.size b1.size
    refine ⟨b3.trans (b2.mono b3.size), ⟨by rw [H1.out.2.2.2]; exact Nat.le_refl _, by omega, by have := HB.out; have := b3.size; omega, by rw [← hwm, ← hmb]; simp⟩, (bw.block _ (heap_lt H1.out.2.1)).trans H1.out.2.1, (bw.block _ hz1).trans H1.out.2.2.1, ((H2.out.1.prs).on b1).on b2, fun q hq h0 => ?_, ((H2.out.2.1.num).on b1).on b2, fun q hq h0 => ?_, (HM.out.on b3).on b2, ?_⟩
    · rcases H2.out.1 with e | ⟨g, e, _, ho⟩
      · omega
      · rw [e] at hq; cases hq; have := ho.lt; have := b1.size; show g < mb; omega
    · rcases H2.out.2.1 with e | ⟨g, e, _, ho⟩
      · omega
      · rw [e] at hq; cases hq; have := ho.lt; have := b1.size; show g < mb; omega
    · rw [← hwm, ← hmb]; exact mpAt_made wt
  rw [hwm, hmb]
  clear hwm hmb H1 H2 H3 H4
  go_upto_region 6 with (fail)
  go_loopw [56] (fun s56 wr => ∃ i : Nat, i ≤ Lb ∧ s56 = .int .i64 (i : Int) ∧ TlS w wr P n b mb Lb Lt x p1 p2 p3 a a' ks (met1 p2 i)) (fun s56 _ => Lb - (intOf s56).toNat)
  case atStart => exact ⟨0, by omega, rfl, H5.out⟩
  case round =>
    clear H5
    obtain ⟨i, hi, rfl, hst⟩ := hrel
    by_cases hlt2 : i < Lb
    · have hlti : (i : Int) < (Lb : Int) := by omega
      have hL0 : 0 < Lb := by omega
      have HR : Hid (TlS w wr P n b mb Lb Lt x p1 p2 p3 a a' ks (met1 p2 i)) := hst
      obtain ⟨g, o, rfl, c1, c2⟩ : ∃ g o, a = some ⟨g, o, none⟩ ∧ wr.cell? ⟨g, o + i * 2, none⟩ = some (.int .i64 (p1 i)) ∧ wr.cell? ⟨g, o + i * 2 + 1, none⟩ = some (.int .i64 (p2 i)) := by
        rcases hst.prs with e | ⟨g, o, e, hc⟩
        · omega
        · exact ⟨g, o, e, hc i hlt2⟩
      clear hst
      go_upto_region 8 with (fail)
      obtain ⟨B2, hB2⟩ : ∃ B2, wr.heap.size = B2 := ⟨_, rfl⟩
      obtain ⟨w2, hw2⟩ : ∃ w2, wr.alloc (.cells #[.int .i64 (p1 i), .int .i64 (p2 i)] 57) = w2 := ⟨_, rfl⟩
      have HR2 : Hid (TlS w w2 P n b mb Lb Lt x p1 p2 p3 (some ⟨g, o, none⟩) a' ks (met1 p2 i) ∧ w2.heap[B2]? = some (.cells #[.int .i64 (p1 i), .int .i64 (p2 i)] 57 (0, 0)) ∧ mb < B2) := ⟨HR.out.on (by rw [← hw2]; exact below_new _), by rw [← hw2, ← hB2]; exact heap_alloc_new _ _, by have := HR.out.far; omega⟩
      rw [hw2, hB2]
      clear hw2 hB2 c1 c2
      have d0 := cell_of_row _ _ 0 _ _ _ HR2.out.2.1
      have d1 := cell_of_row _ _ 1 _ _ _ HR2.out.2.1
      obtain ⟨hky, kk, hkk, hpk, hpv⟩ := HQ.out.ky i hlt2
      have HKy : Hid ((p1 i, p2 i) ∈ ks ∧ (-9223372036854775808 ≤ p1 i ∧ p1 i ≤ 9223372036854775807) ∧ (-9223372036854775808 ≤ p2 i ∧ p2 i ≤ 9223372036854775807)) := by
        refine ⟨hky, ⟨by omega, by omega⟩, ?_⟩
        obtain ⟨p, q1, q2⟩ := HQ.out.good (p2 i) (List.mem_append_left _ (List.mem_map.2 ⟨i, List.mem_range.2 hlt2, rfl⟩))
        have := (HS.out.2.2.own.good p q1).2.1
        have := HS.out.1.hi
        omega
      clear hky hkk hpk hpv kk
      go_upto_region 9 with (first
        | (at_lookup; refine lk_ok _ rfl _ _ rfl b ks (p1 i) (p2 i) rfl HR2.out.1.has HKy.out.1 (wf64 HKy.out.2.1) rfl ?_)
        | go_in)
      obtain ⟨z0, z1, z2, z3, z4⟩ := HR2.out.1.geo.cells
      obtain ⟨x0, x1, x2, x3, x4, x5, x6, x7, x8, x9, x10, x11, x12, x13, x14⟩ := HR2.out.1.xc
      go_upto_region 10 with (go_at_call 21; refine (HFi.out _ i HR2.out.1.bel hlt2).mono ?_; rintro e w3 ⟨rfl, h1⟩; have H3 : Hid (Below w2.heap.size w2 w3) := h1; clear h1)
      clear z0 z1 z2 z3 z4 x0 x1 x2 x3 x4 x5 x6 x7 x8 x9 x10 x11 x12 x13 x14 d0 d1
      have HR3 : Hid (TlS w w3 P n b mb Lb Lt x p1 p2 p3 (some ⟨g, o, none⟩) a' ks (met1 p2 i) ∧ w3.heap[B2]? = some (.cells #[.int .i64 (p1 i), .int .i64 (p2 i)] 57 (0, 0)) ∧ mb < B2) := ⟨HR2.out.1.on H3.out, (H3.out.block _ (heap_lt HR2.out.2.1)).trans HR2.out.2.1, HR2.out.2.2⟩
      clear HR2 H3
      have d0 := cell_of_row _ _ 0 _ _ _ HR3.out.2.1
      have d1 := cell_of_row _ _ 1 _ _ _ HR3.out.2.1
      have hcl : ∃ j : Nat, (i = 0 ∨ (i : Int) - 1 = (j : Int) ∧ j < Lb ∧ w3.cell? ⟨g, o + j * 2, none⟩ = some (.int .i64 (p1 j)) ∧ ¬ p1 i ≤ p1 j) := by
        by_cases h0 : i = 0
        · exact ⟨0, .inl h0⟩
        · refine ⟨i - 1, .inr ⟨by omega, by omega, ?_, ?_⟩⟩
          · rcases HR3.out.1.prs with e | ⟨g', o', e, hc⟩
            · omega
            · cases e; exact (hc (i - 1) (by omega)).1
          · have := HQ.out.up (i - 1) (by omega)
            rw [show i - 1 + 1 = i by omega] at this
            omega
      obtain ⟨j, hcl⟩ := hcl
      rcases hcl with h0 | ⟨hj1, hj2, hj3, hj4⟩
      · have hi0 : ¬ 0 < i := by omega
        clear h0
        go_quiet (first | (go_at_call 13; refine Calls.quiet_of_same (HNq.out _)))
        have HR4 : Hid (TlS w (w3.drewN nq) P n b mb Lb Lt x p1 p2 p3 (some ⟨g, o, none⟩) a' ks (met1 p2 i)) := HR3.out.1.on (drewN_below w3 nq)
        have hml : (met1 p2 i).length < 100000000 := by unfold met1; simp; omega
        go_wp2_with (first
          | (at_lookup; refine lk_new _ rfl _ _ rfl mb (met1 p2 i) (p2 i) rfl HR4.out.met (HQ.out.fresh1 hlt2) (wf64 HKy.out.2.2) rfl ?_)
          | (at_mapUpdate; refine up_new _ rfl _ _ _ rfl mb (met1 p2 i) (p2 i) 1 rfl HR4.out.met hml (HQ.out.fresh1 hlt2) (wf64 HKy.out.2.2) (wf64 (by omega)) rfl rfl ?_; intro w5 h5 g5)
          | go_in)
        go_roundw
        case rel => exact ⟨i + 1, by omega, by go_num, by rw [met1_succ]; exact HR4.out.put g5 h5⟩
        case measure => simp [intOf]; omega
      · have hi0 : 0 < i := by omega
        go_quiet (first | (go_at_call 13; refine Calls.quiet_of_same (HNq.out _)))
        have HR4 : Hid (TlS w (w3.drewN nq) P n b mb Lb Lt x p1 p2 p3 (some ⟨g, o, none⟩) a' ks (met1 p2 i)) := HR3.out.1.on (drewN_below w3 nq)
        have hml : (met1 p2 i).length < 100000000 := by unfold met1; simp; omega
        go_wp2_with (first
          | (at_lookup; refine lk_new _ rfl _ _ rfl mb (met1 p2 i) (p2 i) rfl HR4.out.met (HQ.out.fresh1 hlt2) (wf64 HKy.out.2.2) rfl ?_)
          | (at_mapUpdate; refine up_new _ rfl _ _ _ rfl mb (met1 p2 i) (p2 i) 1 rfl HR4.out.met hml (HQ.out.fresh1 hlt2) (wf64 HKy.out.2.2) (wf64 (by omega)) rfl rfl ?_; intro w5 h5 g5)
          | go_in)
        go_roundw
        case rel => exact ⟨i + 1, by omega, by go_num, by rw [met1_succ]; exact HR4.out.put g5 h5⟩
        case measure => simp [intOf]; omega
    · have hlti : ¬ (i : Int) < (Lb : Int) := by omega
      have HR : Hid (TlS w wr P n b mb Lb Lt x p1 p2 p3 a a' ks (met2 p2 p3 Lb 0)) := by
        have e : i = Lb := by omega
        rw [met2_0, ← e]; exact e ▸ hst
      clear hst hi
      go_upto_region 15 with (fail)
      obtain ⟨w6, hw6⟩ : ∃ w6, wr = w6 := ⟨_, rfl⟩
      rw [hw6] at HR ⊢
      clear hw6
      go_loopw [117] (fun s117 wr => ∃ j : Nat, j ≤ Lt ∧ s117 = .int .i64 (j : Int) ∧ TlS w wr P n b mb Lb Lt x p1 p2 p3 a a' ks (met2 p2 p3 Lb j)) (fun s117 _ => Lt - (intOf s117).toNat)
      case atStart => exact ⟨0, by omega, rfl, HR.out⟩
      case round =>
        clear HR
        obtain ⟨j, hj, rfl, hst⟩ := hrel
        have HR : Hid (TlS w wr P n b mb Lb Lt x p1 p2 p3 a a' ks (met2 p2 p3 Lb j)) := hst
        by_cases hlt3 : j < Lt
        · have hltj : (j : Int) < (Lt : Int) := by omega
          obtain ⟨g, o, rfl, c1⟩ : ∃ g o, a' = some ⟨g, o, none⟩ ∧ wr.cell? ⟨g, o + j, none⟩ = some (.int .i64 (p3 j)) := by
            rcases hst.num with e | ⟨g, o, e, hc⟩
            · omega
            · exact ⟨g, o, e, hc j hlt3⟩
          clear hst
          have hwf : -9223372036854775808 ≤ p3 j ∧ p3 j ≤ 9223372036854775807 := by
            obtain ⟨p, q1, q2⟩ := HQ.out.good (p3 j) (List.mem_append_right _ (List.mem_map.2 ⟨j, List.mem_range.2 hlt3, rfl⟩))
            have := (HS.out.2.2.own.good p q1).2.1
            have := HS.out.1.hi
            omega
          have HW : Hid (-9223372036854775808 ≤ p3 j ∧ p3 j ≤ 9223372036854775807) := hwf
          have hml : (met2 p2 p3 Lb j).length < 100000000 := by rw [met2_len]; have := HQ.out.lb; have := HQ.out.lt; omega
          clear hwf
          go_wp2_with (first
            | (at_lookup; refine lk_new _ rfl _ _ rfl mb (met2 p2 p3 Lb j) (p3 j) rfl HR.out.met (HQ.out.fresh2 hlt3) (wf64 HW.out) rfl ?_)
            | (at_mapUpdate; refine up_new _ rfl _ _ _ rfl mb (met2 p2 p3 Lb j) (p3 j) 1 rfl HR.out.met hml (HQ.out.fresh2 hlt3) (wf64 HW.out) (wf64 (by omega)) rfl rfl ?_; intro w5 h5 g5)
            | go_in)
          go_roundw
          case rel => exact ⟨j + 1, by omega, by go_num, by rw [met2_succ]; exact HR.out.put g5 h5⟩
          case measure => simp [intOf]; omega
        · have hltj : ¬ (j : Int) < (Lt : Int) := by omega
          have HV : Hid (∀ z v, (z, v) ∈ met2 p2 p3 Lb j → v = 1 ∧ ∃ p, ν p ≠ 0 ∧ z = (ν p : Int)) := fun z v hz => by
            have e : j = Lt := by omega
            subst e
            exact ⟨(met2_mem hz).1, HQ.out.good z (met2_mem hz).2⟩
          clear hst hj
          obtain ⟨E, hE, hL⟩ := HR.out.met
          have HL : Hid (MpL E (met2 p2 p3 Lb j)) := hL
          obtain ⟨ml, hml⟩ : ∃ ml, (met2 p2 p3 Lb j).length = ml := ⟨_, rfl⟩
          rw [hml] at hE
          clear hL hml
          obtain ⟨w8, hw8⟩ : ∃ w8, wr = w8 := ⟨_, rfl⟩
          rw [hw8] at HR hE ⊢
          clear hw8
          go_upto_region 20 with (first
            | (at_range; refine wpList_range_own _ rfl _ 36 rfl 3 3 lawI Tryz.underlying36 _ mb ml _ rfl hE ?_; intro w9 hrg0 hg0 hs0)
            | go_in)
          obtain ⟨r9, hr9⟩ : ∃ r9, w8.heap.size = r9 := ⟨_, rfl⟩
          have H9 : Hid (Below w.heap.size w w9 ∧ GeoAt w9 P n ∧ P < r9 ∧ w.heap.size ≤ r9) := by
            have hf := HR.out.far
            have hsz := HR.out.bel.size
            exact ⟨HR.out.bel.grown hg0 hsz (fun k hk => by cases hk), (hg0.block P (by omega) (by simp)).trans HR.out.geo, by omega, by omega⟩
          rw [hr9] at hrg0 ⊢
          clear hr9 hs0 hg0 hE HR
          go_loopw [21] (fun _ wr => ∃ (left : Lit → Bool) (cnt : Nat), wr.ranges Tryz.prog 3 (plainElem Tryz.prog 3) mb r9 ml E left cnt ∧ (∀ z, left (kI z) = true → z ∈ (met2 p2 p3 Lb j).map Prod.fst) ∧ Below w.heap.size w wr ∧ GeoAt wr P n)
            (fun _ wr => wr.rangeLeft mb r9)
          case atStart => exact ⟨_, _, hrg0, fun z hz => by rw [HL.out.has] at hz; simpa using hz, H9.out.1, H9.out.2.1⟩
          case round =>
            obtain ⟨left, cnt, hrg, hlk, hbw, hgeo⟩ := hrel
            have HG : Hid (Below w.heap.size w wr ∧ GeoAt wr P n ∧ (∀ z, left (kI z) = true → z ∈ (met2 p2 p3 Lb j).map Prod.fst) ∧ wr.rangeLeft mb r9 = cnt) := ⟨hbw, hgeo, hlk, hrg.left_eq⟩
            clear hbw hgeo hlk hrg0
            go_upto_region 21 with (first
              | (at_next; refine wpList_next_ranges_ii _ rfl _ rfl 3 3 .i64 .i64 lawI Tryz.underlying3 Tryz.underlying3 mb r9 ml _ _ _ rfl hrg ?_ ?_)
              | go_in)
            · intro hc0 hl0
              clear hrg
              go_wp2
              go_ret
              exact ⟨rfl, HG.out.1⟩
            · intro z c w1 cnt1 hwz hwc hlz hat hrg1 hlt9 hg1 hs1 hen
              obtain ⟨⟨z', v⟩, hm1, hm2⟩ := List.mem_map.1 (HG.out.2.2.1 z hlz)
              have hz' : z' = z := hm2
              subst hz'
              obtain ⟨hv1, p, hp, hzp⟩ := HV.out z' v hm1
              have hc1 := HL.out.at1 hm1 (hat .nil)
              rw [hv1] at hc1
              subst hc1
              subst hzp
              obtain ⟨u, hu⟩ : ∃ u, ν p = u := ⟨_, rfl⟩
              have hgd := HS.out.2.2.own.good p hp
              have HUp := fun wx hb => HUs.out wx p hb hp
              rw [hu] at hgd HUp
              have hu1 : ¬ (u : Int) < gD (n : Int) := by rw [gD_nat]; omega
              have hu2 : u < n := hgd.2.1
              have HU2 : Hid (∀ wx, Below w.heap.size w wx → Calls Tryz.prog 25 #[.pointer (some ⟨tt, 0, none⟩), .agg #[.int .i64 (n : Int), .int .i64 98, .int .i64 (gI n), .int .i64 (gD n), .int .i64 (gC n)], .int .i64 (u : Int)] wx fun e w' => e = .returned (.tuple #[.bool true, .int .i64 0]) ∧ Below wx.heap.size wx w') := HUp
              have hf9 := H9.out
              have HB1 : Hid (Below w.heap.size w w1 ∧ GeoAt w1 P n) := ⟨HG.out.1.grown hg1 HG.out.1.size (fun k hk => by cases hk; exact hf9.2.2.2), (hg1.block P (heap_lt HG.out.2.1) (fun e => by have := Option.some.inj e; omega)).trans HG.out.2.1⟩
              have HRg : Hid (w1.ranges Tryz.prog 3 (plainElem Tryz.prog 3) mb r9 ml E (fun y => left y && !y.sameKey (kI (u : Int))) cnt1 ∧ cnt1 < cnt) := ⟨by rw [← hu]; exact hrg1, hlt9⟩
              rw [hu] at hen ⊢
              clear hrg hrg1 hlt9 hg1 hs1 hgd HUp hf9 hm1 hm2 hat hlz hwc hwz
              obtain ⟨z0, z1, z2, z3, z4⟩ := HB1.out.2.cells
              go_upto_region 23 with (go_at_call 25; refine (HU2.out _ HB1.out.1).mono ?_; rintro e w2 ⟨rfl, h1⟩; have H2 : Hid (Below w1.heap.size w1 w2) := h1; clear h1)
              clear z0 z1 z2 z3 z4 hen
              have HB2 : Hid (Below w.heap.size w w2 ∧ GeoAt w2 P n) := ⟨HB1.out.1.trans (H2.out.mono HB1.out.1.size), (H2.out.block _ (heap_lt HB1.out.2)).trans HB1.out.2⟩
              obtain ⟨z0, z1, z2, z3, z4⟩ := HB2.out.2.cells
              go_wp2_with (go_at_call 13; refine (HNu.out _).mono ?_; rintro e wq ⟨rfl, rfl⟩)
              have hrg2 := HRg.out.1.kept (below_grown H2.out) (by simp) (by simp)
              go_roundw
              case rel => exact ⟨_, cnt1, hrg2, fun y hy => HG.out.2.2.1 y (by simp at hy; exact hy.1), HB2.out.1, HB2.out.2⟩
              case measure => rw [hrg2.left_eq, HG.out.2.2.2]; exact HRg.out.2
open Rec
section
variable (w : World) {ops : Array Oper} {rest : List Oper} {o : Oper} {a : Act} {Q : Exit → Act → World → Prop}
end
theorem HasM.hp {w w' : World} {b : Nat} {ν : Nat → Nat} (h : HasM w b ν) (e : w'.heap[b]? = w.heap[b]?) : HasM w' b ν := let ⟨ks, h1, h2⟩ := h; ⟨ks, h1.hp e, h2⟩
theorem HasM.lt {w : World} {b : Nat} {ν : Nat → Nat} (h : HasM w b ν) : b < w.heap.size := let ⟨_, h1, _⟩ := h; h1.lt
theorem HasM.on {w w' : World} {b : Nat} {ν : Nat → Nat} (h : HasM w b ν) (hb : Below w.heap.size w w') : HasM w' b ν := h.hp (hb.block _ h.lt)
theorem HasM.mv {w0 w w' : World} {D : Dk} {T T' : Tx} {b : Nat} {ν : Nat → Nat} (h : HasM w b ν) (ho : Out w0 w D T b) (x : SMv (fun _ => False) w T w' T') : HasM w' b ν :=
  h.hp (x.fr.block b h.lt (fun e => e.elim (fun e => ho.no e) id))
theorem HasM.none {w : World} {b : Nat} (h : MpAt w b []) : HasM w b (fun _ => 0) := ⟨[], h, fun z v => ⟨fun e => by simp at e, fun ⟨k, _, k2, _⟩ => absurd rfl k2⟩⟩
theorem HasM.put {w : World} {b k : Nat} {ν ν' : Nat → Nat} {ks ks' : List (Int × Int)} (hk : k < 16522) (h : ∀ z v, (z, v) ∈ ks ↔ ∃ k : Nat, k < 16522 ∧ ν (ixP k) ≠ 0 ∧ z = (k : Int) ∧ v = (ν (ixP k) : Int)) (hm : MpAt w b ks') (hp : ∀ t y, (t, y) ∈ ks' ↔ (t = (k : Int) ∧ y = (ν' (ixP k) : Int)) ∨ (t ≠ (k : Int) ∧ (t, y) ∈ ks)) (hn : ν' (ixP k) ≠ 0) (hs : ∀ j, j < 16522 → j ≠ k → ν' (ixP j) = ν (ixP j)) : HasM w b ν' := by
  refine ⟨ks', hm, fun z v => ?_⟩
  rw [hp]
  constructor
  · rintro (⟨rfl, rfl⟩ | ⟨h1, h2⟩)
    · exact ⟨k, hk, hn, rfl, rfl⟩
    · obtain ⟨j, j1, j2, rfl, rfl⟩ := (h z v).1 h2
      have e := hs j j1 (fun e => h1 (by rw [e]))
      exact ⟨j, j1, by rw [e]; exact j2, rfl, by rw [e]⟩
  · rintro ⟨j, j1, j2, rfl, rfl⟩
    by_cases e : j = k
    · subst e; exact .inl ⟨rfl, rfl⟩
    · have e2 := hs j j1 e
      exact .inr ⟨by omega, (h _ _).2 ⟨j, j1, by rw [← e2]; exact j2, rfl, by rw [e2]⟩⟩
theorem ixP_way_off {k j : Nat} (hk : k < 16522) (hj : j < 16522) (hne : j ≠ k) : ixP j ∉ wayP k := fun h => hne ((way_ix hk hj).1 h)
end Go.Proofs.YtiblfmcnffhpdaaGreatDoor
namespace Go.Proofs.YtiblfmcnffhpdaaGreatDoor
open Rec
theorem fi_ix {j : Nat} (hj : j < 16522) : fiP (ixP j) = j ∧ szP (ixP j) = 1 := by
  unfold ixP
  split
  · unfold fiP szP
    rw [if_pos (by omega), if_neg (by omega), if_neg (by omega), if_neg (by omega)]
    exact ⟨rfl, rfl⟩
  · split
    · unfold fiP szP
      rw [if_neg (by omega), if_neg (by omega), if_pos (by omega), if_neg (by omega), if_neg (by omega), if_neg (by omega)]
      exact ⟨by omega, rfl⟩
    · unfold fiP szP
      rw [if_neg (by omega), if_neg (by omega), if_neg (by omega), if_neg (by omega), if_neg (by omega), if_neg (by omega), if_neg (by omega)]
      exact ⟨by omega, rfl⟩
theorem cv_nz {ν : Nat → Nat} {k p : Nat} : cvP ν k p ≠ 0 ↔ ν p ≠ 0 ∧ gone ν k p = false := by
  unfold cvP
  cases h : gone ν k p
  · simp
  · simp
theorem cv_ix {ν : Nat → Nat} {k j : Nat} (hj : j < 16522) : cvP ν k (ixP j) ≠ 0 ↔ ν (ixP j) ≠ 0 ∧ j < k := by
  have ht := (ixP_lt hj).2
  unfold isTb at ht
  rw [cv_nz, gone_leaf (fun e => ht (.inl e)) (fun e => ht (.inr e))]
  unfold acP
  rw [(fi_ix hj).1, (fi_ix hj).2]
  constructor
  · rintro ⟨h1, h2⟩
    refine ⟨h1, ?_⟩
    rw [decide_eq_true h1] at h2
    simp at h2
    omega
  · rintro ⟨h1, h2⟩
    refine ⟨h1, ?_⟩
    rw [decide_eq_true h1]
    simp
    omega
theorem kid_in {p i : Nat} (hp : isTb p) (hi : i < 128) : fiP (kid p i) + szP (kid p i) ≤ fiP p + szP p := by
  rcases hp with rfl | hp
  · have h := kid11 i hi
    rw [h.2.2.2.1, h.2.2.2.2]
    have e1 : fiP 11 = 138 := rfl
    have e2 : szP 11 = 16384 := rfl
    rw [e1, e2]
    omega
  · have h := kid_leaf hp hi
    rw [h.2.2.1, h.2.2.2.1, h.2.2.2.2.1]
    omega
theorem Shp.cut {ν : Nat → Nat} (h : Shp ν) (k : Nat) : Shp (cvP ν k) := by
  have gt : ∀ p, isTb p → gone ν k p = (acP ν k p && all128 (fun i => cvP ν k (kid p i))) := fun p hp => by
    rcases hp with rfl | hp
    · exact gone_t2
    · exact gone_t1 hp
  have z0 : ∀ p, ν p = 0 → cvP ν k p = 0 := fun p e => by unfold cvP; split; rfl; exact e
  refine ⟨fun p h1 h2 h3 => ?_, fun p h1 => z0 p (h.out p h1), fun p h1 h2 => ?_⟩
  · by_cases e : ν (par p) = 0
    · exact z0 p (h.hole p h1 h2 e)
    · obtain ⟨q1, q2, q3⟩ := par_kid h1 h2
      have hg : gone ν k (par p) = true := by
        cases hg : gone ν k (par p)
        · exact absurd h3 (cv_nz.2 ⟨e, hg⟩)
        · rfl
      rw [gt _ q1, Bool.and_eq_true] at hg
      have := all128_iff.1 hg.2 (pla p) q3
      rw [q2] at this
      exact this
  · obtain ⟨h3, h4⟩ := cv_nz.1 h2
    rw [gt p h1] at h4
    cases ha : acP ν k p
    · obtain ⟨i, i1, i2⟩ := h.tight p h1 h3
      refine ⟨i, i1, cv_nz.2 ⟨i2, ?_⟩⟩
      cases hg : gone ν k (kid p i)
      · rfl
      · have := gone_ac hg
        unfold acP at this ha
        rw [decide_eq_true h3] at ha
        rw [decide_eq_true i2] at this
        simp at this ha
        have := kid_in h1 i1
        omega
    · rw [ha, Bool.true_and] at h4
      apply Classical.byContradiction
      intro hn
      have : all128 (fun i => cvP ν k (kid p i)) = true := all128_iff.2 (fun i hi => by
        by_cases e : cvP ν k (kid p i) = 0
        · exact e
        · exact absurd ⟨i, hi, e⟩ hn)
      rw [this] at h4
      cases h4
theorem add_count {ν ν' : Nat → Nat} {F F' : Nat → Bool} {k n : Nat} (hk : k < 16522) (hs : Shp ν) (h : Tks ν F (wayP k) ν' F') (h0 : F 0 = false) (hF : ∀ b, F b = true → b < n) : Shp ν' ∧ ct F' n + siz ν' = ct F n + siz ν ∧ (∀ j, j < 16522 → (ν' (ixP j) ≠ 0 ↔ j = k ∨ ν (ixP j) ≠ 0)) ∧ (ν (ixP k) ≠ 0 → ν' = ν ∧ ∀ q, q ∈ wayP k → ν q ≠ 0) := by
  have nz : ∀ p, filW ν k p ≠ 0 ↔ ν' p ≠ 0 := fun p => by rw [filW_nz, h.nz h0]
  refine ⟨(hs.fil hk).cong nz, ?_, fun j hj => by rw [← nz, fil_keys hk hj], fun e => ⟨(h.same (hs.way hk e)).1, hs.way hk e⟩⟩
  have h1 := h.zeros (n := n) (way_nodup k hk) hF
  have h2 := siz_fil (ν := ν) hk
  rw [siz_cong (fun p _ => nz p)] at h2
  omega
end Go.Proofs.YtiblfmcnffhpdaaGreatDoor

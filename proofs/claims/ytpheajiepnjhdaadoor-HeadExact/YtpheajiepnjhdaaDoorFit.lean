import Derived.Test.YtpheajiepnjhdaaDoorBackM
namespace Go.Proofs.YtpheajiepnjhdaaDoor
open Go.RowKit Rec

/-- numbers and blocks that may be -/
structure Fit (ns : List Int) (ds : List (List Int)) (K : Nat) : Prop where
  nl : ns.length = K
  dl : ds.length = K
  k1 : 1 ≤ K
  k96 : K ≤ 96
  may : may ns 16384 = true
  rows : ∀ i, i < K → (row ds i).length = 512
theorem Fit.blk {ns : List Int} {ds : List (List Int)} {K : Nat} (h : Fit ns ds K) : Go.Proofs.YtpheajiepnjhdaaDoor.blk ds K = true := by
  unfold Go.Proofs.YtpheajiepnjhdaaDoor.blk
  rw [decide_eq_true h.dl, decide_eq_true ((mem_row _).2 (fun i hi => h.rows i (by rw [← h.dl]; exact hi)))]; rfl
theorem plan_fit (st sd : List Int) : Fit (planN st) (planD st sd) (planN st).length := by
  have h := plan_len st sd
  exact ⟨rfl, h.1, h.2.1, h.2.2, plan_may st, fun i hi => plan_rows st sd i (by rw [h.1]; exact hi)⟩
theorem Fit.goodE {ns : List Int} {ds : List (List Int)} {K : Nat} (h : Fit ns ds K) (n : Int) (es : List (List Int)) : good (made ns ds) n es = (decide (nth ns (K - 1) < n) && Go.Proofs.YtpheajiepnjhdaaDoor.blk es K && decide (made ns ds = made ns es)) := by
  rw [good_made ns ds es n (by rw [h.nl]; exact h.k1) (by rw [h.nl]; exact h.k96) h.may, may_last ns 16384 n h.may (by rw [h.nl]; exact h.k1), h.nl]
  rw [show decide (sumV (hd ns 0) ds = sumV (hd ns 0) es) = decide (made ns ds = made ns es) from decide_eq_decide.2 (made_inj ns ds es).symm]
theorem Fit.numsE {ns : List Int} {ds : List (List Int)} {K : Nat} (h : Fit ns ds K) (n : Int) : Go.Proofs.YtpheajiepnjhdaaDoor.numsE (made ns ds) n = if nth ns (K - 1) < n then 0 else 41 := by
  unfold made
  rw [numsE_hd ns _ n (by rw [h.nl]; exact h.k1) (by rw [h.nl]; exact h.k96) (fun i hi => by have := pre_bd ns _ h.may i hi; omega), may_last ns 16384 n h.may (by rw [h.nl]; exact h.k1), h.nl]
  by_cases e : nth ns (K - 1) < n
  · rw [decide_eq_true e, if_pos rfl, if_pos e]
  · rw [decide_eq_false e, if_neg e]; rfl
theorem Fit.numsL {ns : List Int} {ds : List (List Int)} {K : Nat} (h : Fit ns ds K) (n : Int) : Go.Proofs.YtpheajiepnjhdaaDoor.numsL (made ns ds) n = if nth ns (K - 1) < n then ns else [] := by
  unfold made
  rw [numsL_hd ns _ n (by rw [h.nl]; exact h.k1) (by rw [h.nl]; exact h.k96) (fun i hi => by have := pre_bd ns _ h.may i hi; omega), may_last ns 16384 n h.may (by rw [h.nl]; exact h.k1), h.nl]
  by_cases e : nth ns (K - 1) < n
  · rw [decide_eq_true e, if_pos rfl, if_pos e]
  · rw [decide_eq_false e, if_neg e]; rfl
/-- Make of what may be -/
theorem Fit.make {ns : List Int} {ds : List (List Int)} {K : Nat} (h : Fit ns ds K) (w : World) (g cap dg doff dc : Nat) (hI : OwnI w g cap ns) (hD : Data w (some ⟨dg, doff, none⟩) ds) (hT : TabAt w) :
    Calls Tryd.prog 9 #[.slice (some ⟨g, 0, none⟩) K cap, .slice (some ⟨dg, doff, none⟩) K dc] w fun e w' => ∃ g, e = .returned (.tuple #[.slice (some ⟨g, 0, none⟩) 512 512, .int .i64 0]) ∧ OwnB w' g 512 (made ns ds) ∧ w.heap.size ≤ g ∧ Below w.heap.size w w' :=
  make_ok w g 0 K cap dg doff dc ns ds h.nl hI.ints hD hT h.k1 h.k96 h.may h.blk
theorem made_fit (w : World) (sa : Option Addr) (sn sc : Nat) (ba : Option Addr) (bn bc : Nat) (st sd : List Int) (hp : PlanAt w sa sn ba bn st sd) :
    Calls Tryd.prog 8 #[.agg #[.slice sa sn sc, .slice ba bn bc]] w fun e w' => ∃ g cap dg dcap, e = .returned (.tuple #[.slice (some ⟨g, 0, none⟩) (planN st).length cap, .slice (some ⟨dg, 0, none⟩) (planN st).length dcap]) ∧ OwnI w' g cap (planN st) ∧ Data w' (some ⟨dg, 0, none⟩) (planD st sd) ∧ (planN st).length ≤ dcap ∧ Below w.heap.size w w' := by
  refine (made_some w sa sn sc ba bn bc st sd hp).mono ?_
  rintro e w' ⟨g, cap, dg, dcap, K, rfl, rfl, h1, h2, h3, h4⟩
  exact ⟨g, cap, dg, dcap, rfl, h1, h2, h3, h4⟩

end Go.Proofs.YtpheajiepnjhdaaDoor

import Derived.Test.YtcdggcdkjooohaaDoorWRc
namespace Go.Proofs.YtcdggcdkjooohaaDoor
open Go.RowKit Rec

theorem LogAt.lists {w0 w : World} {D : Dk} {F : List Int} {nb k : Nat} {v1 v2 : Value} {L : List Rb} (h : LogAt w0 w F nb v1 v2 L) (hk : (logN F nb).length = k) (h0 : 0 < k) (hl : F.length = 512 * nb) (hnb : 98 ≤ nb) (hD : ∀ b, D.has b → b < w0.heap.size) (hN : D.nb = nb) :
    ∃ gn cn gd cd, v1 = .slice (some ⟨gn, 0, none⟩) k cn ∧ v2 = .slice (some ⟨gd, 0, none⟩) k cd ∧ Lists w D gn gd k (logN F nb) (logD F k) := by
  obtain ⟨gn, cn, gd, cd, e1, e2, h1, h2, hat⟩ := h.at_ hk h0
  have hkl := logN_len F nb
  rw [hk] at hkl
  refine ⟨gn, cn, gd, cd, e1, e2, fun i hi => ?_, fun i hi => ?_, hk, logD_length _ _⟩
  · obtain ⟨m, hm, m1, m2⟩ := logN_nat F nb i (by rw [hk]; exact hi)
    rw [hN]
    refine ⟨(hat i hi).1, ?_, ?_⟩ <;> omega
  · obtain ⟨_, g, c, n2, n3, n4⟩ := hat i hi
    refine ⟨g, c, n2, ?_, fun e => by have := hD g e; omega⟩
    rw [row_logD F k i hi]
    exact BlkAt.of n3 (bck_length F _ nb hl (by omega))
end Go.Proofs.YtcdggcdkjooohaaDoor

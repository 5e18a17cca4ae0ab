/-
  The errors of the reader, one behind the other, are what Parse must answer.
-/
import Derived.Test.YtdhmandnamajpaaHead
namespace Go.Proofs.Ytdhmandnamajpaa

theorem er_zero {b : ByteArray} {p k : Nat} {ok : Bool} (h : er b p k ok = 0) : p + k ≤ b.size ∧ ok = true := by
  unfold er at h
  by_cases h1 : b.size < p + k
  · rw [if_pos h1] at h; simp at h
  · rw [if_neg h1] at h
    cases ok with
    | true => exact ⟨by omega, rfl⟩
    | false => simp at h

theorem start_chain (b : ByteArray) (e1 e2 : Int) (p1 : Nat) (h1 : e1 = beginE b) (q1 : e1 = 0 → p1 = 2) (h2 : e1 ≠ 0 → e2 = e1) (h3 : e1 = 0 → e2 = er b p1 1 (inB 1 6 (num1 b p1 : Int))) :
    (magicB b = true → e2 = 1) ∧ (magicB b = false → e2 = er b 2 1 (inB 1 6 (num1 b 2 : Int))) ∧ (e2 = 0 → e1 = 0 ∧ p1 = 2 ∧ 3 ≤ b.size ∧ inB 1 6 (num1 b 2 : Int) = true) := by
  have key : e2 = 0 → e1 = 0 := fun h => Decidable.byContradiction fun n => n ((h2 n).symm.trans h)
  refine ⟨fun hm => ?_, fun hm => ?_, fun h => ?_⟩
  · have : e1 = 1 := by rw [h1]; simp [beginE, hm]
    rw [h2 (by rw [this]; decide), this]
  · by_cases hs : b.size < 2
    · have : e1 = 2 := by rw [h1]; simp [beginE, hm, hs]
      rw [h2 (by rw [this]; decide), this]
      unfold er
      rw [if_pos (by omega)]
    · have : e1 = 0 := by rw [h1]; simp [beginE, hm, hs]
      rw [h3 this, q1 this]
  · have z := key h
    have hp := q1 z
    have := h3 z
    rw [h, hp] at this
    obtain ⟨a, c⟩ := er_zero this.symm
    exact ⟨z, hp, by omega, c⟩

theorem parse_chain (b : ByteArray) (n dl p q q' : Nat) (e2 e e4 f f' f7 : Int)
    (m1 : magicB b = true → e2 = 1) (m2 : magicB b = false → e2 = er b 2 1 (inB 1 6 (num1 b 2 : Int))) (hn : e2 = 0 → n = num1 b 2)
    (a1 : e2 ≠ 0 → e = e2) (a2 : e2 = 0 → e = headsE b n) (hp : e = 0 → p = 3 + 5 * n)
    (b1 : e ≠ 0 → e4 = e) (b2 : e = 0 → e4 = er b p 2 (inB 0 60 (num2 b p : Int)))
    (c1 : e4 ≠ 0 → f = e4) (c2 : e4 = 0 → f = codE b n n) (hq : f = 0 → q = cpos b n n) (hd : f = 0 → dl = dlen b n)
    (d1 : f ≠ 0 → f' = f) (d2 : f = 0 → f' = if b.size < q + dl then 2 else 0) (hq' : f' = 0 → q' = q + dl)
    (g1 : f' ≠ 0 → f7 = f') (g2 : f' = 0 → f7 = if q' < b.size then 4 else 0) :
    f7 = parseE b ∧ (f7 = 0 → e2 = 0 ∧ e = 0 ∧ e4 = 0 ∧ f = 0 ∧ f' = 0) := by
  have k7 : f7 = 0 → f' = 0 := fun h => Decidable.byContradiction fun n => n ((g1 n).symm.trans h)
  have k6 : f' = 0 → f = 0 := fun h => Decidable.byContradiction fun n => n ((d1 n).symm.trans h)
  have k5 : f = 0 → e4 = 0 := fun h => Decidable.byContradiction fun n => n ((c1 n).symm.trans h)
  have k4 : e4 = 0 → e = 0 := fun h => Decidable.byContradiction fun n => n ((b1 n).symm.trans h)
  have k3 : e = 0 → e2 = 0 := fun h => Decidable.byContradiction fun n => n ((a1 n).symm.trans h)
  refine ⟨?_, fun h => ⟨k3 (k4 (k5 (k6 (k7 h)))), k4 (k5 (k6 (k7 h))), k5 (k6 (k7 h)), k6 (k7 h), k7 h⟩⟩
  have up : e4 ≠ 0 → f7 = e4 := fun h => by
    have x1 := c1 h
    have x2 := d1 (by rw [x1]; exact h)
    rw [g1 (by rw [x2, x1]; exact h), x2, x1]
  have up2 : e ≠ 0 → f7 = e := fun h => by
    have x1 := b1 h
    rw [up (by rw [x1]; exact h), x1]
  have up3 : e2 ≠ 0 → f7 = e2 := fun h => by
    have x1 := a1 h
    rw [up2 (by rw [x1]; exact h), x1]
  unfold parseE
  cases hm : magicB b with
  | true =>
    have x := m1 hm
    rw [up3 (by rw [x]; decide), x]
    simp
  | false =>
    have x := m2 hm
    rw [← x]
    by_cases z2 : e2 = 0
    · have hnn := hn z2
      have xe := a2 z2
      simp only [z2]
      rw [← hnn]
      unfold bodyE
      rw [← xe]
      by_cases z : e = 0
      · have hpp := hp z
        have x4 := b2 z
        rw [hpp] at x4
        unfold tailE
        simp only [z]
        show f7 = if er b (3 + 5 * n) 2 (inB 0 60 (num2 b (3 + 5 * n) : Int)) ≠ 0 then er b (3 + 5 * n) 2 (inB 0 60 (num2 b (3 + 5 * n) : Int)) else _
        rw [← x4]
        by_cases z4 : e4 = 0
        · have xf := c2 z4
          simp only [z4]
          by_cases zf : f = 0
          · have hqq := hq zf
            have hdd := hd zf
            have xf' := d2 zf
            rw [hqq, hdd] at xf'
            by_cases y : b.size < pend b n
            · have : f' = 2 := by rw [xf', if_pos (show b.size < cpos b n n + dlen b n from y)]
              rw [g1 (by rw [this]; decide), this]
              simp [y]
            · have h0 : f' = 0 := by rw [xf', if_neg (show ¬ b.size < cpos b n n + dlen b n from y)]
              rw [g2 h0, hq' h0, hqq, hdd]
              simp only [y]
              rfl
          · have xf2 := xf
            unfold codE at xf2
            by_cases y : b.size < cpos b n n
            · rw [if_pos y] at xf2
              have x1 := d1 zf
              rw [g1 (by rw [x1]; exact zf), x1, xf2]
              have : b.size < pend b n := by unfold pend; omega
              simp [this]
            · rw [if_neg y] at xf2; exact absurd xf2 zf
        · rw [up z4]
          simp [z4]
      · rw [up2 z]
        simp [z]
    · rw [up3 z2]
      simp [z2]
end Go.Proofs.Ytdhmandnamajpaa

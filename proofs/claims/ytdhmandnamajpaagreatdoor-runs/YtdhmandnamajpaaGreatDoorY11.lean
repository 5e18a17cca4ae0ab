import Derived.Test.YtdhmandnamajpaaGreatDoorY00
import Derived.Test.YtdhmandnamajpaaGreatDoorY10
namespace Go.Proofs.YtdhmandnamajpaaGreatDoor
open Go.RowKit Go.Joins
set_option maxHeartbeats 1000000
set_option maxRecDepth 8000
theorem RumX.mk' {w0 w : World} {M B : Nat} {sv : Value} {d : ByteArray} {m m' : MS} {T : List (Nat × Nat × Int)} (h : RumX w0 w M B sv d m T) (e : m = m') : RumX w0 w M B sv d m' T := e ▸ h
theorem topN_lt {st : List Nat} (h : ∀ v ∈ st, v < 65536) (k : Nat) : topN st k < 65536 := by
 unfold topN
 rw [List.getD]
 cases e : st[st.length - 1 - k]? with
 | none => simp
 | some v => simpa using h v (List.mem_of_getElem? e)
theorem run_sums_4 {w0 w : World} {M B : Nat} {sv : Value} {d : ByteArray} {m : MS} {T : List (Nat × Nat × Int)} (h : RumX w0 w M B sv d m T) (hB : B ≤ w.heap.size) (hl : m.st.length ≤ 100) (h2 : m.base + 2 ≤ m.st.length) (hv : ∀ v ∈ m.st, v < 65536)  :
  Calls Tryz.prog 68 #[.pointer (some ⟨M, 0, none⟩), .int .i64 4] w (RDo w0 w M B sv d { m with st := dropN m.st 2 ++ [sumI 4 (topN m.st 1) (topN m.st 0)] } T) := by
 have HM := hidc h
 have t0 := topN_lt hv 0
 have t1 := topN_lt hv 1
 have hD1 : (dropN m.st 1).length = m.st.length - 1 := dropN_len _ _
 have hD2 : (dropN m.st 2).length = m.st.length - 2 := dropN_len _ _
 have HT := hidc (topN_drop m.st (by omega))
 have HD := hidc (dropN_drop m.st)
 have HE : Hid (w16 ((topN m.st 1 : Int) + (topN m.st 0 : Int)) = sumI 4 (topN m.st 1) (topN m.st 0)) := by
  show w16 ((topN m.st 1 : Int) + (topN m.st 0 : Int)) = sumI 4 (topN m.st 1) (topN m.st 0)
  rfl
 have HL1 := hidc hD1
 have HL2 := hidc hD2
 have hm : (topN m.st 1 : Int) * (topN m.st 0 : Int) < 1099511627776 ∧ 0 ≤ (topN m.st 1 : Int) * (topN m.st 0 : Int) := by
  have h1 : (topN m.st 1) * (topN m.st 0) ≤ 65536 * 65536 := Nat.mul_le_mul (by omega) (by omega)
  have e : (topN m.st 1 : Int) * (topN m.st 0 : Int) = ((topN m.st 1 * topN m.st 0 : Nat) : Int) := by simp
  rw [e]
  generalize topN m.st 1 * topN m.st 0 = q at *
  omega
 clear h hD1 hD2
 go_enter Tryz.func68, Tryz.ntmps68
 go_wp2_with fail
 refine (run_pop HM.out hB (by omega) (by omega)).mono ?_
 rintro e w1 ⟨rfl, ⟨v1, hw1⟩, hm1, hB1, hk1, hs1⟩
 have HM1 := hidc hm1
 have HK1 := hidc hk1
 clear hm1 hk1 hw1
 go_wp2_with fail
 refine (run_pop HM1.out hB1 (by simp only [HL1.out]; omega) (by simp only [HL1.out]; omega)).mono ?_
 rintro e w2 ⟨rfl, ⟨v2, hw2⟩, hm2, hB2, hk2, hs2⟩
 have HM2 := hidc hm2
 have HK2 := hidc hk2
 clear hm2 hk2 hw2
 rw [HT.out]
 go_wp2_with fail
 refine (run_lay HM2.out hB2 ((topN m.st 1 : Int) + (topN m.st 0 : Int)) (by omega) (by omega) (by simp only [dropN_drop, HL2.out]; omega)).mono ?_
 rintro e w3 ⟨rfl, hm3, hB3, hk3, hs3⟩
 have HM3 := hidc hm3
 have HK3 := hidc hk3
 clear hm3 hk3
 go_wp2_with fail
 go_end0
 exact ⟨rfl, HM3.out.mk' (by rw [HD.out, HE.out]), hB3, (HK1.out.trans HK2.out).trans HK3.out, by omega⟩
theorem run_sums_5 {w0 w : World} {M B : Nat} {sv : Value} {d : ByteArray} {m : MS} {T : List (Nat × Nat × Int)} (h : RumX w0 w M B sv d m T) (hB : B ≤ w.heap.size) (hl : m.st.length ≤ 100) (h2 : m.base + 2 ≤ m.st.length) (hv : ∀ v ∈ m.st, v < 65536)  :
  Calls Tryz.prog 68 #[.pointer (some ⟨M, 0, none⟩), .int .i64 5] w (RDo w0 w M B sv d { m with st := dropN m.st 2 ++ [sumI 5 (topN m.st 1) (topN m.st 0)] } T) := by
 have HM := hidc h
 have t0 := topN_lt hv 0
 have t1 := topN_lt hv 1
 have hD1 : (dropN m.st 1).length = m.st.length - 1 := dropN_len _ _
 have hD2 : (dropN m.st 2).length = m.st.length - 2 := dropN_len _ _
 have HT := hidc (topN_drop m.st (by omega))
 have HD := hidc (dropN_drop m.st)
 have HE : Hid (w16 ((topN m.st 1 : Int) - (topN m.st 0 : Int)) = sumI 5 (topN m.st 1) (topN m.st 0)) := by
  show w16 ((topN m.st 1 : Int) - (topN m.st 0 : Int)) = sumI 5 (topN m.st 1) (topN m.st 0)
  rfl
 have HL1 := hidc hD1
 have HL2 := hidc hD2
 have hm : (topN m.st 1 : Int) * (topN m.st 0 : Int) < 1099511627776 ∧ 0 ≤ (topN m.st 1 : Int) * (topN m.st 0 : Int) := by
  have h1 : (topN m.st 1) * (topN m.st 0) ≤ 65536 * 65536 := Nat.mul_le_mul (by omega) (by omega)
  have e : (topN m.st 1 : Int) * (topN m.st 0 : Int) = ((topN m.st 1 * topN m.st 0 : Nat) : Int) := by simp
  rw [e]
  generalize topN m.st 1 * topN m.st 0 = q at *
  omega
 clear h hD1 hD2
 go_enter Tryz.func68, Tryz.ntmps68
 go_wp2_with fail
 refine (run_pop HM.out hB (by omega) (by omega)).mono ?_
 rintro e w1 ⟨rfl, ⟨v1, hw1⟩, hm1, hB1, hk1, hs1⟩
 have HM1 := hidc hm1
 have HK1 := hidc hk1
 clear hm1 hk1 hw1
 go_wp2_with fail
 refine (run_pop HM1.out hB1 (by simp only [HL1.out]; omega) (by simp only [HL1.out]; omega)).mono ?_
 rintro e w2 ⟨rfl, ⟨v2, hw2⟩, hm2, hB2, hk2, hs2⟩
 have HM2 := hidc hm2
 have HK2 := hidc hk2
 clear hm2 hk2 hw2
 rw [HT.out]
 go_wp2_with fail
 refine (run_lay HM2.out hB2 ((topN m.st 1 : Int) - (topN m.st 0 : Int)) (by omega) (by omega) (by simp only [dropN_drop, HL2.out]; omega)).mono ?_
 rintro e w3 ⟨rfl, hm3, hB3, hk3, hs3⟩
 have HM3 := hidc hm3
 have HK3 := hidc hk3
 clear hm3 hk3
 go_wp2_with fail
 go_end0
 exact ⟨rfl, HM3.out.mk' (by rw [HD.out, HE.out]), hB3, (HK1.out.trans HK2.out).trans HK3.out, by omega⟩
theorem run_sums_6 {w0 w : World} {M B : Nat} {sv : Value} {d : ByteArray} {m : MS} {T : List (Nat × Nat × Int)} (h : RumX w0 w M B sv d m T) (hB : B ≤ w.heap.size) (hl : m.st.length ≤ 100) (h2 : m.base + 2 ≤ m.st.length) (hv : ∀ v ∈ m.st, v < 65536)  :
  Calls Tryz.prog 68 #[.pointer (some ⟨M, 0, none⟩), .int .i64 6] w (RDo w0 w M B sv d { m with st := dropN m.st 2 ++ [sumI 6 (topN m.st 1) (topN m.st 0)] } T) := by
 have HM := hidc h
 have t0 := topN_lt hv 0
 have t1 := topN_lt hv 1
 have hD1 : (dropN m.st 1).length = m.st.length - 1 := dropN_len _ _
 have hD2 : (dropN m.st 2).length = m.st.length - 2 := dropN_len _ _
 have HT := hidc (topN_drop m.st (by omega))
 have HD := hidc (dropN_drop m.st)
 have HE : Hid (w16 ((topN m.st 1 : Int) * (topN m.st 0 : Int)) = sumI 6 (topN m.st 1) (topN m.st 0)) := by
  show w16 ((topN m.st 1 : Int) * (topN m.st 0 : Int)) = sumI 6 (topN m.st 1) (topN m.st 0)
  rfl
 have HL1 := hidc hD1
 have HL2 := hidc hD2
 have hm : (topN m.st 1 : Int) * (topN m.st 0 : Int) < 1099511627776 ∧ 0 ≤ (topN m.st 1 : Int) * (topN m.st 0 : Int) := by
  have h1 : (topN m.st 1) * (topN m.st 0) ≤ 65536 * 65536 := Nat.mul_le_mul (by omega) (by omega)
  have e : (topN m.st 1 : Int) * (topN m.st 0 : Int) = ((topN m.st 1 * topN m.st 0 : Nat) : Int) := by simp
  rw [e]
  generalize topN m.st 1 * topN m.st 0 = q at *
  omega
 clear h hD1 hD2
 go_enter Tryz.func68, Tryz.ntmps68
 go_wp2_with fail
 refine (run_pop HM.out hB (by omega) (by omega)).mono ?_
 rintro e w1 ⟨rfl, ⟨v1, hw1⟩, hm1, hB1, hk1, hs1⟩
 have HM1 := hidc hm1
 have HK1 := hidc hk1
 clear hm1 hk1 hw1
 go_wp2_with fail
 refine (run_pop HM1.out hB1 (by simp only [HL1.out]; omega) (by simp only [HL1.out]; omega)).mono ?_
 rintro e w2 ⟨rfl, ⟨v2, hw2⟩, hm2, hB2, hk2, hs2⟩
 have HM2 := hidc hm2
 have HK2 := hidc hk2
 clear hm2 hk2 hw2
 rw [HT.out]
 go_wp2_with fail
 refine (run_lay HM2.out hB2 ((topN m.st 1 : Int) * (topN m.st 0 : Int)) (by omega) (by omega) (by simp only [dropN_drop, HL2.out]; omega)).mono ?_
 rintro e w3 ⟨rfl, hm3, hB3, hk3, hs3⟩
 have HM3 := hidc hm3
 have HK3 := hidc hk3
 clear hm3 hk3
 go_wp2_with fail
 go_end0
 exact ⟨rfl, HM3.out.mk' (by rw [HD.out, HE.out]), hB3, (HK1.out.trans HK2.out).trans HK3.out, by omega⟩
theorem run_sums_7y {w0 w : World} {M B : Nat} {sv : Value} {d : ByteArray} {m : MS} {T : List (Nat × Nat × Int)} (h : RumX w0 w M B sv d m T) (hB : B ≤ w.heap.size) (hl : m.st.length ≤ 100) (h2 : m.base + 2 ≤ m.st.length) (hv : ∀ v ∈ m.st, v < 65536) (hc : topN m.st 1 < topN m.st 0) :
  Calls Tryz.prog 68 #[.pointer (some ⟨M, 0, none⟩), .int .i64 7] w (RDo w0 w M B sv d { m with st := dropN m.st 2 ++ [sumI 7 (topN m.st 1) (topN m.st 0)] } T) := by
 have HM := hidc h
 have t0 := topN_lt hv 0
 have t1 := topN_lt hv 1
 have hD1 : (dropN m.st 1).length = m.st.length - 1 := dropN_len _ _
 have hD2 : (dropN m.st 2).length = m.st.length - 2 := dropN_len _ _
 have HT := hidc (topN_drop m.st (by omega))
 have HD := hidc (dropN_drop m.st)
 have HE : Hid (w16 (1) = sumI 7 (topN m.st 1) (topN m.st 0)) := by
  show w16 (1) = sumI 7 (topN m.st 1) (topN m.st 0)
  simp [sumI, hc, w16]
 have HL1 := hidc hD1
 have HL2 := hidc hD2
 have hm : (topN m.st 1 : Int) * (topN m.st 0 : Int) < 1099511627776 ∧ 0 ≤ (topN m.st 1 : Int) * (topN m.st 0 : Int) := by
  have h1 : (topN m.st 1) * (topN m.st 0) ≤ 65536 * 65536 := Nat.mul_le_mul (by omega) (by omega)
  have e : (topN m.st 1 : Int) * (topN m.st 0 : Int) = ((topN m.st 1 * topN m.st 0 : Nat) : Int) := by simp
  rw [e]
  generalize topN m.st 1 * topN m.st 0 = q at *
  omega
 clear h hD1 hD2
 go_enter Tryz.func68, Tryz.ntmps68
 go_wp2_with fail
 refine (run_pop HM.out hB (by omega) (by omega)).mono ?_
 rintro e w1 ⟨rfl, ⟨v1, hw1⟩, hm1, hB1, hk1, hs1⟩
 have HM1 := hidc hm1
 have HK1 := hidc hk1
 clear hm1 hk1 hw1
 go_wp2_with fail
 refine (run_pop HM1.out hB1 (by simp only [HL1.out]; omega) (by simp only [HL1.out]; omega)).mono ?_
 rintro e w2 ⟨rfl, ⟨v2, hw2⟩, hm2, hB2, hk2, hs2⟩
 have HM2 := hidc hm2
 have HK2 := hidc hk2
 clear hm2 hk2 hw2
 rw [HT.out]
 go_wp2_with fail
 refine (run_lay HM2.out hB2 (1) (by omega) (by omega) (by simp only [dropN_drop, HL2.out]; omega)).mono ?_
 rintro e w3 ⟨rfl, hm3, hB3, hk3, hs3⟩
 have HM3 := hidc hm3
 have HK3 := hidc hk3
 clear hm3 hk3
 go_wp2_with fail
 go_end0
 exact ⟨rfl, HM3.out.mk' (by rw [HD.out, HE.out]), hB3, (HK1.out.trans HK2.out).trans HK3.out, by omega⟩
theorem run_sums_7n {w0 w : World} {M B : Nat} {sv : Value} {d : ByteArray} {m : MS} {T : List (Nat × Nat × Int)} (h : RumX w0 w M B sv d m T) (hB : B ≤ w.heap.size) (hl : m.st.length ≤ 100) (h2 : m.base + 2 ≤ m.st.length) (hv : ∀ v ∈ m.st, v < 65536) (hc : ¬ topN m.st 1 < topN m.st 0) :
  Calls Tryz.prog 68 #[.pointer (some ⟨M, 0, none⟩), .int .i64 7] w (RDo w0 w M B sv d { m with st := dropN m.st 2 ++ [sumI 7 (topN m.st 1) (topN m.st 0)] } T) := by
 have HM := hidc h
 have t0 := topN_lt hv 0
 have t1 := topN_lt hv 1
 have hD1 : (dropN m.st 1).length = m.st.length - 1 := dropN_len _ _
 have hD2 : (dropN m.st 2).length = m.st.length - 2 := dropN_len _ _
 have HT := hidc (topN_drop m.st (by omega))
 have HD := hidc (dropN_drop m.st)
 have HE : Hid (w16 (0) = sumI 7 (topN m.st 1) (topN m.st 0)) := by
  show w16 (0) = sumI 7 (topN m.st 1) (topN m.st 0)
  simp [sumI, hc, w16]
 have HL1 := hidc hD1
 have HL2 := hidc hD2
 have hm : (topN m.st 1 : Int) * (topN m.st 0 : Int) < 1099511627776 ∧ 0 ≤ (topN m.st 1 : Int) * (topN m.st 0 : Int) := by
  have h1 : (topN m.st 1) * (topN m.st 0) ≤ 65536 * 65536 := Nat.mul_le_mul (by omega) (by omega)
  have e : (topN m.st 1 : Int) * (topN m.st 0 : Int) = ((topN m.st 1 * topN m.st 0 : Nat) : Int) := by simp
  rw [e]
  generalize topN m.st 1 * topN m.st 0 = q at *
  omega
 clear h hD1 hD2
 go_enter Tryz.func68, Tryz.ntmps68
 go_wp2_with fail
 refine (run_pop HM.out hB (by omega) (by omega)).mono ?_
 rintro e w1 ⟨rfl, ⟨v1, hw1⟩, hm1, hB1, hk1, hs1⟩
 have HM1 := hidc hm1
 have HK1 := hidc hk1
 clear hm1 hk1 hw1
 go_wp2_with fail
 refine (run_pop HM1.out hB1 (by simp only [HL1.out]; omega) (by simp only [HL1.out]; omega)).mono ?_
 rintro e w2 ⟨rfl, ⟨v2, hw2⟩, hm2, hB2, hk2, hs2⟩
 have HM2 := hidc hm2
 have HK2 := hidc hk2
 clear hm2 hk2 hw2
 rw [HT.out]
 go_wp2_with fail
 refine (run_lay HM2.out hB2 (0) (by omega) (by omega) (by simp only [dropN_drop, HL2.out]; omega)).mono ?_
 rintro e w3 ⟨rfl, hm3, hB3, hk3, hs3⟩
 have HM3 := hidc hm3
 have HK3 := hidc hk3
 clear hm3 hk3
 go_wp2_with fail
 go_end0
 exact ⟨rfl, HM3.out.mk' (by rw [HD.out, HE.out]), hB3, (HK1.out.trans HK2.out).trans HK3.out, by omega⟩
theorem run_sums_8y {w0 w : World} {M B : Nat} {sv : Value} {d : ByteArray} {m : MS} {T : List (Nat × Nat × Int)} (h : RumX w0 w M B sv d m T) (hB : B ≤ w.heap.size) (hl : m.st.length ≤ 100) (h2 : m.base + 2 ≤ m.st.length) (hv : ∀ v ∈ m.st, v < 65536) (hc : topN m.st 1 = topN m.st 0) :
  Calls Tryz.prog 68 #[.pointer (some ⟨M, 0, none⟩), .int .i64 8] w (RDo w0 w M B sv d { m with st := dropN m.st 2 ++ [sumI 8 (topN m.st 1) (topN m.st 0)] } T) := by
 have HM := hidc h
 have t0 := topN_lt hv 0
 have t1 := topN_lt hv 1
 have hD1 : (dropN m.st 1).length = m.st.length - 1 := dropN_len _ _
 have hD2 : (dropN m.st 2).length = m.st.length - 2 := dropN_len _ _
 have HT := hidc (topN_drop m.st (by omega))
 have HD := hidc (dropN_drop m.st)
 have HE : Hid (w16 (1) = sumI 8 (topN m.st 1) (topN m.st 0)) := by
  show w16 (1) = sumI 8 (topN m.st 1) (topN m.st 0)
  simp [sumI, hc, w16]
 have HL1 := hidc hD1
 have HL2 := hidc hD2
 have hm : (topN m.st 1 : Int) * (topN m.st 0 : Int) < 1099511627776 ∧ 0 ≤ (topN m.st 1 : Int) * (topN m.st 0 : Int) := by
  have h1 : (topN m.st 1) * (topN m.st 0) ≤ 65536 * 65536 := Nat.mul_le_mul (by omega) (by omega)
  have e : (topN m.st 1 : Int) * (topN m.st 0 : Int) = ((topN m.st 1 * topN m.st 0 : Nat) : Int) := by simp
  rw [e]
  generalize topN m.st 1 * topN m.st 0 = q at *
  omega
 clear h hD1 hD2
 go_enter Tryz.func68, Tryz.ntmps68
 go_wp2_with fail
 refine (run_pop HM.out hB (by omega) (by omega)).mono ?_
 rintro e w1 ⟨rfl, ⟨v1, hw1⟩, hm1, hB1, hk1, hs1⟩
 have HM1 := hidc hm1
 have HK1 := hidc hk1
 clear hm1 hk1 hw1
 go_wp2_with fail
 refine (run_pop HM1.out hB1 (by simp only [HL1.out]; omega) (by simp only [HL1.out]; omega)).mono ?_
 rintro e w2 ⟨rfl, ⟨v2, hw2⟩, hm2, hB2, hk2, hs2⟩
 have HM2 := hidc hm2
 have HK2 := hidc hk2
 clear hm2 hk2 hw2
 rw [HT.out]
 go_wp2_with fail
 refine (run_lay HM2.out hB2 (1) (by omega) (by omega) (by simp only [dropN_drop, HL2.out]; omega)).mono ?_
 rintro e w3 ⟨rfl, hm3, hB3, hk3, hs3⟩
 have HM3 := hidc hm3
 have HK3 := hidc hk3
 clear hm3 hk3
 go_wp2_with fail
 go_end0
 exact ⟨rfl, HM3.out.mk' (by rw [HD.out, HE.out]), hB3, (HK1.out.trans HK2.out).trans HK3.out, by omega⟩
theorem run_sums_8n {w0 w : World} {M B : Nat} {sv : Value} {d : ByteArray} {m : MS} {T : List (Nat × Nat × Int)} (h : RumX w0 w M B sv d m T) (hB : B ≤ w.heap.size) (hl : m.st.length ≤ 100) (h2 : m.base + 2 ≤ m.st.length) (hv : ∀ v ∈ m.st, v < 65536) (hc : ¬ (topN m.st 1 : Int) = (topN m.st 0 : Int)) :
  Calls Tryz.prog 68 #[.pointer (some ⟨M, 0, none⟩), .int .i64 8] w (RDo w0 w M B sv d { m with st := dropN m.st 2 ++ [sumI 8 (topN m.st 1) (topN m.st 0)] } T) := by
 have HM := hidc h
 have t0 := topN_lt hv 0
 have t1 := topN_lt hv 1
 have hD1 : (dropN m.st 1).length = m.st.length - 1 := dropN_len _ _
 have hD2 : (dropN m.st 2).length = m.st.length - 2 := dropN_len _ _
 have HT := hidc (topN_drop m.st (by omega))
 have HD := hidc (dropN_drop m.st)
 have HE : Hid (w16 (0) = sumI 8 (topN m.st 1) (topN m.st 0)) := by
  show w16 (0) = sumI 8 (topN m.st 1) (topN m.st 0)
  have hc' : ¬ topN m.st 1 = topN m.st 0 := fun e => hc (by rw [e])
  simp [sumI, hc', w16]
 have HL1 := hidc hD1
 have HL2 := hidc hD2
 have hm : (topN m.st 1 : Int) * (topN m.st 0 : Int) < 1099511627776 ∧ 0 ≤ (topN m.st 1 : Int) * (topN m.st 0 : Int) := by
  have h1 : (topN m.st 1) * (topN m.st 0) ≤ 65536 * 65536 := Nat.mul_le_mul (by omega) (by omega)
  have e : (topN m.st 1 : Int) * (topN m.st 0 : Int) = ((topN m.st 1 * topN m.st 0 : Nat) : Int) := by simp
  rw [e]
  generalize topN m.st 1 * topN m.st 0 = q at *
  omega
 clear h hD1 hD2
 go_enter Tryz.func68, Tryz.ntmps68
 go_wp2_with fail
 refine (run_pop HM.out hB (by omega) (by omega)).mono ?_
 rintro e w1 ⟨rfl, ⟨v1, hw1⟩, hm1, hB1, hk1, hs1⟩
 have HM1 := hidc hm1
 have HK1 := hidc hk1
 clear hm1 hk1 hw1
 go_wp2_with fail
 refine (run_pop HM1.out hB1 (by simp only [HL1.out]; omega) (by simp only [HL1.out]; omega)).mono ?_
 rintro e w2 ⟨rfl, ⟨v2, hw2⟩, hm2, hB2, hk2, hs2⟩
 have HM2 := hidc hm2
 have HK2 := hidc hk2
 clear hm2 hk2 hw2
 rw [HT.out]
 go_wp2_with fail
 refine (run_lay HM2.out hB2 (0) (by omega) (by omega) (by simp only [dropN_drop, HL2.out]; omega)).mono ?_
 rintro e w3 ⟨rfl, hm3, hB3, hk3, hs3⟩
 have HM3 := hidc hm3
 have HK3 := hidc hk3
 clear hm3 hk3
 go_wp2_with fail
 go_end0
 exact ⟨rfl, HM3.out.mk' (by rw [HD.out, HE.out]), hB3, (HK1.out.trans HK2.out).trans HK3.out, by omega⟩
theorem run_sums {w0 w : World} {M B : Nat} {sv : Value} {d : ByteArray} {m : MS} {T : List (Nat × Nat × Int)} (h : RumX w0 w M B sv d m T) (hB : B ≤ w.heap.size) (hl : m.st.length ≤ 100) (h2 : m.base + 2 ≤ m.st.length) (hv : ∀ v ∈ m.st, v < 65536) (op : Nat) (ho : 4 ≤ op ∧ op < 9) :
  Calls Tryz.prog 68 #[.pointer (some ⟨M, 0, none⟩), .int .i64 (op : Nat)] w (RDo w0 w M B sv d { m with st := dropN m.st 2 ++ [sumI op (topN m.st 1) (topN m.st 0)] } T) := by
 rcases (show op = 4 ∨ op = 5 ∨ op = 6 ∨ op = 7 ∨ op = 8 by omega) with rfl | rfl | rfl | rfl | rfl
 ·exact run_sums_4 h hB hl h2 hv
 ·exact run_sums_5 h hB hl h2 hv
 ·exact run_sums_6 h hB hl h2 hv
 ·by_cases hc : topN m.st 1 < topN m.st 0
  ·exact run_sums_7y h hB hl h2 hv hc
  ·exact run_sums_7n h hB hl h2 hv hc
 ·by_cases hc : topN m.st 1 = topN m.st 0
  ·exact run_sums_8y h hB hl h2 hv hc
  ·exact run_sums_8n h hB hl h2 hv (fun e => hc (by omega))
end Go.Proofs.YtdhmandnamajpaaGreatDoor
namespace Go.Proofs.YtdhmandnamajpaaGreatDoor
open Go.RowKit Go.Joins
set_option maxHeartbeats 1000000
set_option maxRecDepth 8000
theorem run_stacks_2 {w0 w : World} {M B : Nat} {sv : Value} {d : ByteArray} {m : MS} {T : List (Nat × Nat × Int)} (h : RumX w0 w M B sv d m T) (hB : B ≤ w.heap.size) (pl nx tl tc : Nat) (ta : Option Addr) (n : Nat) (hn : n < 65536) (hl : m.st.length ≤ 100) :
  Calls Tryz.prog 67 #[.pointer (some ⟨M, 0, none⟩), .agg #[.int .i64 (pl : Nat), .int .i64 2, .int .i64 (n : Nat), .slice ta tl tc, .int .i64 (nx : Nat)]] w (RDo w0 w M B sv d ({ m with st := m.st ++ [n] }) T) := by
 have hM := h.size
 have hlt := h.lt
 have HM := hidc (h.below (boxB w (.cells #[.int .i64 (pl : Nat), .int .i64 2, .int .i64 (n : Nat), .slice ta tl tc, .int .i64 (nx : Nat)] 129)) hB)
 have hB1 : B ≤ (w.alloc (.cells #[.int .i64 (pl : Nat), .int .i64 2, .int .i64 (n : Nat), .slice ta tl tc, .int .i64 (nx : Nat)] 129)).heap.size := by simp; omega
 have HK0 : Hid (KR w (w.alloc (.cells #[.int .i64 (pl : Nat), .int .i64 2, .int .i64 (n : Nat), .slice ta tl tc, .int .i64 (nx : Nat)] 129))) := KR.below (boxB w _)
 have HE : Hid (w16 (n : Nat) = n) := by show w16 (n : Nat) = n; unfold w16; omega
 clear h
 go_enter Tryz.func67, Tryz.ntmps67
 go_wp2_with fail
 refine (run_lay HM.out hB1 (n : Nat) (by omega) (by omega) hl).mono ?_
 rintro e w2 ⟨rfl, hm2, hB2, hk2, hs2⟩
 have HM2 := hidc hm2
 have HK2 := hidc hk2
 clear hm2 hk2
 go_wp2_with fail
 go_end0
 exact ⟨rfl, HM2.out.mk' (by rw [HE.out]), hB2, HK0.out.trans HK2.out, by simp at hs2; omega⟩
theorem run_stacks_3 {w0 w : World} {M B : Nat} {sv : Value} {d : ByteArray} {m : MS} {T : List (Nat × Nat × Int)} (h : RumX w0 w M B sv d m T) (hB : B ≤ w.heap.size) (pl nx tl tc : Nat) (ta : Option Addr) (N : Int) (hl : m.st.length ≤ 100) (h1 : m.base + 1 ≤ m.st.length) :
  Calls Tryz.prog 67 #[.pointer (some ⟨M, 0, none⟩), .agg #[.int .i64 (pl : Nat), .int .i64 3, .int .i64 N, .slice ta tl tc, .int .i64 (nx : Nat)]] w (RDo w0 w M B sv d ({ m with st := dropN m.st 1 }) T) := by
 have hM := h.size
 have hlt := h.lt
 have HM := hidc (h.below (boxB w (.cells #[.int .i64 (pl : Nat), .int .i64 3, .int .i64 N, .slice ta tl tc, .int .i64 (nx : Nat)] 129)) hB)
 have hB1 : B ≤ (w.alloc (.cells #[.int .i64 (pl : Nat), .int .i64 3, .int .i64 N, .slice ta tl tc, .int .i64 (nx : Nat)] 129)).heap.size := by simp; omega
 have HK0 : Hid (KR w (w.alloc (.cells #[.int .i64 (pl : Nat), .int .i64 3, .int .i64 N, .slice ta tl tc, .int .i64 (nx : Nat)] 129))) := KR.below (boxB w _)
 clear h
 go_enter Tryz.func67, Tryz.ntmps67
 go_wp2_with fail
 refine (run_pop HM.out hB1 (by omega) (by omega)).mono ?_
 rintro e w2 ⟨rfl, ⟨v2, hw2⟩, hm2, hB2, hk2, hs2⟩
 have HM2 := hidc hm2
 have HK2 := hidc hk2
 clear hm2 hk2 hw2
 go_wp2_with fail
 go_end0
 exact ⟨rfl, HM2.out, hB2, HK0.out.trans HK2.out, by simp at hs2; omega⟩
theorem run_stacks_9 {w0 w : World} {M B : Nat} {sv : Value} {d : ByteArray} {m : MS} {T : List (Nat × Nat × Int)} (h : RumX w0 w M B sv d m T) (hB : B ≤ w.heap.size) (pl nx tl tc : Nat) (ta : Option Addr) (n : Nat) (hl : m.st.length ≤ 100) (h1 : m.base + n + 1 ≤ m.st.length) (hv : ∀ v ∈ m.st, v < 65536) :
  Calls Tryz.prog 67 #[.pointer (some ⟨M, 0, none⟩), .agg #[.int .i64 (pl : Nat), .int .i64 9, .int .i64 (n : Nat), .slice ta tl tc, .int .i64 (nx : Nat)]] w (RDo w0 w M B sv d ({ m with st := m.st ++ [topN m.st n] }) T) := by
 have hM := h.size
 have hlt := h.lt
 have HM := hidc (h.below (boxB w (.cells #[.int .i64 (pl : Nat), .int .i64 9, .int .i64 (n : Nat), .slice ta tl tc, .int .i64 (nx : Nat)] 129)) hB)
 have hB1 : B ≤ (w.alloc (.cells #[.int .i64 (pl : Nat), .int .i64 9, .int .i64 (n : Nat), .slice ta tl tc, .int .i64 (nx : Nat)] 129)).heap.size := by simp; omega
 have HK0 : Hid (KR w (w.alloc (.cells #[.int .i64 (pl : Nat), .int .i64 9, .int .i64 (n : Nat), .slice ta tl tc, .int .i64 (nx : Nat)] 129))) := KR.below (boxB w _)
 have HE : Hid (w16 (topN m.st n : Nat) = topN m.st n) := by
  show w16 (topN m.st n : Nat) = topN m.st n
  have := topN_lt hv n
  unfold w16; omega
 have t0 := topN_lt hv n
 obtain ⟨V, hq⟩ := HM.out
 have c5 := hq.c5
 have c24 := hq.c24
 obtain ⟨sa, sc, hV⟩ := row_form hq.st
 have hst := hq.st
 rw [hV] at c5 hst
 obtain ⟨g, rfl, hgB, hgs, hcg⟩ := row_cell hst (nV_top m.st n (by omega))
 have hMs : M < (w.alloc (.cells #[.int .i64 (pl : Nat), .int .i64 9, .int .i64 (n : Nat), .slice ta tl tc, .int .i64 (nx : Nat)] 129)).heap.size := by simp; omega
 have hlt1 : m.st.length - 1 - n < m.st.length := by omega
 have HQ := hidc hq
 clear hq hst hV h
 go_enter Tryz.func67, Tryz.ntmps67
 go_wp2_with fail
 refine (run_deep HM.out n _ rfl (by omega) (by omega)).mono ?_
 rintro e w2 ⟨rfl, rfl⟩
 go_wp2_with fail
 refine (run_lay HM.out hB1 (topN m.st n : Nat) (by omega) (by omega) hl).mono ?_
 rintro e w2 ⟨rfl, hm2, hB2, hk2, hs2⟩
 have HM2 := hidc hm2
 have HK2 := hidc hk2
 clear hm2 hk2
 go_wp2_with fail
 go_end0
 exact ⟨rfl, HM2.out.mk' (by rw [HE.out]), hB2, HK0.out.trans HK2.out, by simp at hs2; omega⟩
theorem run_stacks_10 {w0 w : World} {M B : Nat} {sv : Value} {d : ByteArray} {m : MS} {T : List (Nat × Nat × Int)} (h : RumX w0 w M B sv d m T) (hB : B ≤ w.heap.size) (pl nx tl tc : Nat) (ta : Option Addr) (n : Nat) (hl : m.st.length ≤ 100) (h1 : m.base + n + 2 ≤ m.st.length) :
  Calls Tryz.prog 67 #[.pointer (some ⟨M, 0, none⟩), .agg #[.int .i64 (pl : Nat), .int .i64 10, .int .i64 (n : Nat), .slice ta tl tc, .int .i64 (nx : Nat)]] w (RDo w0 w M B sv d ({ m with st := (m.st.set (m.st.length - 1 - (n + 1)) (topN m.st 0)).set (m.st.length - 1) (topN m.st (n + 1)) }) T) := by
 have hM := h.size
 have hlt := h.lt
 have HM := hidc (h.below (boxB w (.cells #[.int .i64 (pl : Nat), .int .i64 10, .int .i64 (n : Nat), .slice ta tl tc, .int .i64 (nx : Nat)] 129)) hB)
 have hB1 : B ≤ (w.alloc (.cells #[.int .i64 (pl : Nat), .int .i64 10, .int .i64 (n : Nat), .slice ta tl tc, .int .i64 (nx : Nat)] 129)).heap.size := by simp; omega
 have HK0 : Hid (KR w (w.alloc (.cells #[.int .i64 (pl : Nat), .int .i64 10, .int .i64 (n : Nat), .slice ta tl tc, .int .i64 (nx : Nat)] 129))) := KR.below (boxB w _)
 obtain ⟨V, hq⟩ := HM.out
 have c5 := hq.c5
 have c24 := hq.c24
 obtain ⟨sa, sc, hV⟩ := row_form hq.st
 have hst := hq.st
 rw [hV] at c5 hst
 obtain ⟨g, hsa, hgB, hgs, hcg⟩ := row_cell hst (nV_top m.st (n + 1) (by omega))
 subst hsa
 obtain ⟨g', hsa, _, _, hct⟩ := row_cell hst (nV_top m.st 0 (by omega))
 injection hsa with hsa
 injection hsa with hsa
 subst hsa
 obtain ⟨fcs, hfb⟩ : ∃ cs, (w.alloc (.cells #[.int .i64 (pl : Nat), .int .i64 10, .int .i64 (n : Nat), .slice ta tl tc, .int .i64 (nx : Nat)] 129)).heap[g]? = some (.cells cs 3 (0, 0)) := by
  rcases hst.2 with ⟨e1, _⟩ | ⟨g', cap, cur, hv, _, hc, _⟩
  ·cases e1
  ·injection hv with q1 q2 q3
   injection q1 with q1
   injection q1 with q1
   subst q1
   exact ⟨cur, hc⟩
 have fz1 := unfrozen_of_block hfb (m.st.length - 1 - (n + 1))
 have fz2 := unfrozen_of_block hfb (m.st.length - 1)
 have hMs : M < (w.alloc (.cells #[.int .i64 (pl : Nat), .int .i64 10, .int .i64 (n : Nat), .slice ta tl tc, .int .i64 (nx : Nat)] 129)).heap.size := by simp; omega
 have hw2 : ((m.st.length - 1 - (n + 1) : Nat) : Int) = (m.st.length : Int) - 1 - (n + 1) := by omega
 have hlt1 : m.st.length - 1 - (n + 1) < m.st.length := by omega
 have hlt2 : m.st.length - 1 < m.st.length := by omega
 have hne : m.st.length - 1 - (n + 1) ≠ m.st.length - 1 := by omega
 have hgM : g ≠ M := by omega
 rw [show m.st.length - 1 - 0 = m.st.length - 1 by omega] at hct
 have hp := ((hq.put_st g _ sc (m.st.length - 1 - (n + 1)) (topN m.st 0) hV).below ((Below.refl _ _).drew) (by simp [World.setCell]; omega)).put_st g _ sc (m.st.length - 1) (topN m.st (n + 1)) hV
 have HP := hidc hp
 have HKP : Hid (KR w (((w.alloc (.cells #[.int .i64 (pl : Nat), .int .i64 10, .int .i64 (n : Nat), .slice ta tl tc, .int .i64 (nx : Nat)] 129)).setCell ⟨g, m.st.length - 1 - (n + 1), none⟩ (.int .i64 (topN m.st 0 : Nat))).drew.setCell ⟨g, m.st.length - 1, none⟩ (.int .i64 (topN m.st (n + 1) : Nat)))) := (HK0.out.trans (KR.setTy hfb (.inr rfl) _ _)).trans (KR.setTy (block_setCell hfb _) (.inr rfl) _ _)
 clear hq hst hV h hp hfb hw2
 have hd1 : ∀ w0 w : World, ∀ T, Hid (RumX w0 w M B sv d m T) → Calls Tryz.prog 117 #[.pointer (some ⟨M, 0, none⟩), .int .i64 ((n : Int) + 1)] w fun e w' => e = .returned (.int .i64 ((m.st.length - 1 - (n + 1) : Nat) : Int)) ∧ w' = w := fun _ _ _ h => run_deep h.out (n + 1) _ (by simp) (by omega) (by omega)
 have hd2 : ∀ w0 w : World, ∀ T, Hid (RumX w0 w M B sv d m T) → Calls Tryz.prog 117 #[.pointer (some ⟨M, 0, none⟩), .int .i64 0] w fun e w' => e = .returned (.int .i64 ((m.st.length - 1 : Nat) : Int)) ∧ w' = w := fun _ _ _ h => run_deep h.out 0 _ rfl (by omega) (by omega)
 have HD1 := hidc hd1
 have HD2 := hidc hd2
 clear hd1 hd2
 generalize hL1 : m.st.length - 1 - (n + 1) = L1 at *
 generalize hL2 : m.st.length - 1 = L2 at *
 have HL1 := hidc hL1
 have HL2 := hidc hL2
 clear hL1 hL2
 go_enter Tryz.func67, Tryz.ntmps67
 go_wp2_with fail
 refine (HD1.out _ _ _ HM).mono ?_
 rintro e w2 ⟨rfl, rfl⟩
 go_wp2_with fail
 refine (HD2.out _ _ _ HM).mono ?_
 rintro e w2 ⟨rfl, rfl⟩
 go_wp2_with fail
 generalize hwz : (w.alloc (.cells #[.int .i64 (pl : Nat), .int .i64 10, .int .i64 (n : Nat), .slice ta tl tc, .int .i64 (nx : Nat)] 129)) = wz at *
 have HWZ := hidc hwz
 clear hwz
 refine wp_region_held_drew (S := fun w' => w'.cell? ⟨M, 5, none⟩ = some (.slice (some ⟨g, 0, none⟩) m.st.length sc) ∧ w'.cell? ⟨g, L2, none⟩ = some (.int .i64 (topN m.st 0 : Nat))) (by kernel_rfl) ⟨c5, hct⟩ (fun hHeld => ?_)
 refine tk 0 ?va0 rfl ?hya0 hHeld ?resta0
 case hya0 => rintro w ⟨hS5, hSg⟩; go_simp; try with_reducible rfl
 simp only [Act.put, aA, aB, aC, aD, aE]
 refine tk 1 ?va1 rfl ?hya1 hHeld ?resta1
 case hya1 => rintro w ⟨hS5, hSg⟩; go_simp; try with_reducible rfl
 simp only [Act.put, aA, aB, aC, aD, aE, aF]
 refine tk 2 ?va2 rfl ?hya2 hHeld ?resta2
 case hya2 => rintro w ⟨hS5, hSg⟩; go_simp; try with_reducible rfl
 simp only [Act.put, aA, aB, aC, aD, aE, aF]
 refine tk 3 ?va3 rfl ?hya3 hHeld ?resta3
 case hya3 => rintro w ⟨hS5, hSg⟩; go_simp; try with_reducible rfl
 simp only [Act.put, aA, aB, aC, aD, aE, aF]
 refine tk 4 ?va4 rfl ?hya4 hHeld ?resta4
 case hya4 => rintro w ⟨hS5, hSg⟩; go_simp; try with_reducible rfl
 simp only [Act.put, aA, aB, aC, aD, aE, aF]
 refine tk 5 ?va5 rfl ?hya5 hHeld ?resta5
 case hya5 => rintro w ⟨hS5, hSg⟩; go_simp; try with_reducible rfl
 simp only [Act.put, aA, aB, aC, aD, aE, aF]
 refine tk 6 ?va6 rfl ?hya6 hHeld ?resta6
 case hya6 => rintro w ⟨hS5, hSg⟩; go_simp; try with_reducible rfl
 simp only [Act.put, aA, aB, aC, aD, aE, aF]
 refine tk 7 ?va7 rfl ?hya7 hHeld ?resta7
 case hya7 => rintro w ⟨hS5, hSg⟩; go_simp; try with_reducible rfl
 simp only [Act.put, aA, aB, aC, aD, aE, aF]
 refine tk 8 ?va8 rfl ?hya8 hHeld ?resta8
 case hya8 => rintro w ⟨hS5, hSg⟩; go_simp; try with_reducible rfl
 simp only [Act.put, aA, aB, aC, aD, aE, aF]
 refine tk 9 ?va9 rfl ?hya9 hHeld ?resta9
 case hya9 => rintro w ⟨hS5, hSg⟩; go_simp; try with_reducible rfl
 simp only [Act.put, aA, aB, aC, aD, aE, aF]
 refine tk 10 ?va10 rfl ?hya10 hHeld ?resta10
 case hya10 => rintro w ⟨hS5, hSg⟩; go_simp; try with_reducible rfl
 simp only [Act.put, aA, aB, aC, aD, aE, aF]
 refine tk 11 ?va11 rfl ?hya11 hHeld ?resta11
 case hya11 => rintro w ⟨hS5, hSg⟩; go_simp; try with_reducible rfl
 simp only [Act.put, aA, aB, aC, aD, aE, aF]
 refine tk 12 ?va12 rfl ?hya12 hHeld ?resta12
 case hya12 => rintro w ⟨hS5, hSg⟩; go_simp; try with_reducible rfl
 simp only [Act.put, aA, aB, aC, aD, aE, aF]
 refine rd 13 rfl (fun K hK => ?_)
 simp only [aD, aE, aF]
 go_simp
 refine hK.out _ _ ⟨(mset_other (fun e => hgM (by injection e))).trans hHeld.1, (mset_other (fun e => hne (by injection e))).trans hHeld.2⟩ (fun hHeld => ?_)
 clear hK hHeld
 refine wpAnyH_done (by kernel_rfl) ?_ _
 go_wp2_with fail
 go_end0
 exact ⟨rfl, ⟨_, HP.out⟩, by simp [World.setCell, World.drew, ← HWZ.out]; omega, HKP.out, by simp [World.setCell, World.drew, ← HWZ.out]⟩
end Go.Proofs.YtdhmandnamajpaaGreatDoor

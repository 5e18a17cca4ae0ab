import Derived.Test.YtdhmandnamajpaaGreatDoorY00
import Derived.Test.YtdhmandnamajpaaGreatDoorY11
namespace Go.Proofs.YtdhmandnamajpaaGreatDoor
open Go.RowKit Go.Joins
set_option maxHeartbeats 1000000
set_option maxRecDepth 8000
theorem KR.box {w w' : World} {cs : Array Value} (h : KR (w.alloc (.cells cs 129)) w') (i : Nat) : w'.cell? ⟨w.heap.size, i, none⟩ = cs[i]? := by
 have := h w.heap.size cs 129 (0, 0) (heap_alloc_new w _) (by decide) (by decide) (by decide) (by decide)
 exact cell_of_block this i
theorem run_words_13y {w0 w : World} {M B : Nat} {sv : Value} {d : ByteArray} {m : MS} {T : List (Nat × Nat × Int)} (h : RumX w0 w M B sv d m T) (hB : B ≤ w.heap.size) (pl nx tl tc : Nat) (N : Int) (ta : Option Addr) (hl : m.st.length ≤ 100) (h1 : m.base + 1 ≤ m.st.length) (hv : ∀ v ∈ m.st, v < 65536) (ha : topN m.st 0 < d.size) :
  Calls Tryz.prog 69 #[.pointer (some ⟨M, 0, none⟩), .agg #[.int .i64 (pl : Nat), .int .i64 13, .int .i64 N, .slice ta tl tc, .int .i64 (nx : Nat)]] w (RDo w0 w M B sv d ({ m with st := dropN m.st 1 ++ [byteN d (topN m.st 0)] }) T) := by
 have hM := h.size
 have hlt := h.lt
 have HM := hidc (h.below (boxB w (.cells #[.int .i64 (pl : Nat), .int .i64 13, .int .i64 N, .slice ta tl tc, .int .i64 (nx : Nat)] 129)) hB)
 have hB1 : B ≤ (w.alloc (.cells #[.int .i64 (pl : Nat), .int .i64 13, .int .i64 N, .slice ta tl tc, .int .i64 (nx : Nat)] 129)).heap.size := by simp; omega
 have HK0 : Hid (KR w (w.alloc (.cells #[.int .i64 (pl : Nat), .int .i64 13, .int .i64 N, .slice ta tl tc, .int .i64 (nx : Nat)] 129))) := KR.below (boxB w _)
 have t0 := topN_lt hv 0
 have hD1 : (dropN m.st 1).length = m.st.length - 1 := dropN_len _ _
 have HD1 := hidc hD1
 clear h hD1
 go_enter Tryz.func69, Tryz.ntmps69
 go_wp2_with fail
 refine (run_pop HM.out hB1 (by omega) (by omega)).mono ?_
 rintro e w2 ⟨rfl, ⟨v2, hw2⟩, hm2, hB2, hk2, hs2⟩
 have HM2 := hidc hm2
 have HK2 := hidc hk2
 have x0 := hk2.box 0
 have x1 := hk2.box 1
 have x2 := hk2.box 2
 have x3 := hk2.box 3
 have x4 := hk2.box 4
 simp only [List.getElem?_toArray, List.getElem?_cons_zero, List.getElem?_cons_succ] at x0 x1 x2 x3 x4
 have hs2' : w.heap.size < w2.heap.size := by simp at hs2; omega
 have hM2 := hm2.size
 clear hm2 hk2 hw2
 obtain ⟨V, hq⟩ := HM2.out
 have c1 := hq.c1
 clear hq
 have hb := byte_nat d _ ha
 have hl8 : d[topN m.st 0].toNat < 256 := UInt8.toNat_lt _
 have HBY : Hid (w16 (d[topN m.st 0].toNat : Nat) = byteN d (topN m.st 0)) := by
  show w16 (d[topN m.st 0].toNat : Nat) = byteN d (topN m.st 0)
  rw [← hb]
  unfold w16; omega
 clear hb
 generalize hag : topN m.st 0 = a at *
 clear hag
 go_wp2_with fail
 refine (run_lay HM2.out hB2 (d[a].toNat : Nat) (by omega) (by omega) (by simp only [HD1.out]; omega)).mono ?_
 rintro e w3 ⟨rfl, hm3, hB3, hk3, hs3⟩
 have HM3 := hidc hm3
 have HK3 := hidc hk3
 clear hm3 hk3
 go_wp2_with fail
 go_end0
 exact ⟨rfl, HM3.out.mk' (by rw [HBY.out]), hB3, (HK0.out.trans HK2.out).trans HK3.out, by simp at hs2; omega⟩
theorem run_words_13n {w0 w : World} {M B : Nat} {sv : Value} {d : ByteArray} {m : MS} {T : List (Nat × Nat × Int)} (h : RumX w0 w M B sv d m T) (hB : B ≤ w.heap.size) (pl nx tl tc : Nat) (N : Int) (ta : Option Addr) (hl : m.st.length ≤ 100) (h1 : m.base + 1 ≤ m.st.length) (hv : ∀ v ∈ m.st, v < 65536) (ha : ¬ topN m.st 0 < d.size) :
  Calls Tryz.prog 69 #[.pointer (some ⟨M, 0, none⟩), .agg #[.int .i64 (pl : Nat), .int .i64 13, .int .i64 N, .slice ta tl tc, .int .i64 (nx : Nat)]] w (RDo w0 w M B sv d ({ m with st := dropN m.st 1 ++ [byteN d (topN m.st 0)] }) T) := by
 have hM := h.size
 have hlt := h.lt
 have HM := hidc (h.below (boxB w (.cells #[.int .i64 (pl : Nat), .int .i64 13, .int .i64 N, .slice ta tl tc, .int .i64 (nx : Nat)] 129)) hB)
 have hB1 : B ≤ (w.alloc (.cells #[.int .i64 (pl : Nat), .int .i64 13, .int .i64 N, .slice ta tl tc, .int .i64 (nx : Nat)] 129)).heap.size := by simp; omega
 have HK0 : Hid (KR w (w.alloc (.cells #[.int .i64 (pl : Nat), .int .i64 13, .int .i64 N, .slice ta tl tc, .int .i64 (nx : Nat)] 129))) := KR.below (boxB w _)
 have t0 := topN_lt hv 0
 have hD1 : (dropN m.st 1).length = m.st.length - 1 := dropN_len _ _
 have HD1 := hidc hD1
 clear h hD1
 go_enter Tryz.func69, Tryz.ntmps69
 go_wp2_with fail
 refine (run_pop HM.out hB1 (by omega) (by omega)).mono ?_
 rintro e w2 ⟨rfl, ⟨v2, hw2⟩, hm2, hB2, hk2, hs2⟩
 have HM2 := hidc hm2
 have HK2 := hidc hk2
 have x0 := hk2.box 0
 have x1 := hk2.box 1
 have x2 := hk2.box 2
 have x3 := hk2.box 3
 have x4 := hk2.box 4
 simp only [List.getElem?_toArray, List.getElem?_cons_zero, List.getElem?_cons_succ] at x0 x1 x2 x3 x4
 have hs2' : w.heap.size < w2.heap.size := by simp at hs2; omega
 have hM2 := hm2.size
 clear hm2 hk2 hw2
 obtain ⟨V, hq⟩ := HM2.out
 have c1 := hq.c1
 clear hq
 have HBY : Hid (w16 0 = byteN d (topN m.st 0)) := by
  show w16 0 = byteN d (topN m.st 0)
  unfold byteN
  rw [List.getD, List.getElem?_eq_none (by simpa using ha)]
  rfl
 generalize hag : topN m.st 0 = a at *
 clear hag
 go_wp2_with fail
 refine (run_lay HM2.out hB2 (0) (by omega) (by omega) (by simp only [HD1.out]; omega)).mono ?_
 rintro e w3 ⟨rfl, hm3, hB3, hk3, hs3⟩
 have HM3 := hidc hm3
 have HK3 := hidc hk3
 clear hm3 hk3
 go_wp2_with fail
 go_end0
 exact ⟨rfl, HM3.out.mk' (by rw [HBY.out]), hB3, (HK0.out.trans HK2.out).trans HK3.out, by simp at hs2; omega⟩
theorem run_words_11n {w0 w : World} {M B : Nat} {sv : Value} {d : ByteArray} {m : MS} {T : List (Nat × Nat × Int)} (h : RumX w0 w M B sv d m T) (hB : B ≤ w.heap.size) (pl nx tl tc : Nat) (N : Int) (ta : Option Addr) (hl : m.st.length ≤ 100) (h1 : m.base + 1 ≤ m.st.length) (hv : ∀ v ∈ m.st, v < 65536) (ha : topN m.st 0 < 16) (hmm : ∀ v ∈ m.mem, v < 65536) :
  Calls Tryz.prog 69 #[.pointer (some ⟨M, 0, none⟩), .agg #[.int .i64 (pl : Nat), .int .i64 11, .int .i64 N, .slice ta tl tc, .int .i64 (nx : Nat)]] w (RDo w0 w M B sv d ({ m with st := dropN m.st 1 ++ [m.mem.getD (topN m.st 0) 0] }) T) := by
 have hM := h.size
 have hlt := h.lt
 have HM := hidc (h.below (boxB w (.cells #[.int .i64 (pl : Nat), .int .i64 11, .int .i64 N, .slice ta tl tc, .int .i64 (nx : Nat)] 129)) hB)
 have hB1 : B ≤ (w.alloc (.cells #[.int .i64 (pl : Nat), .int .i64 11, .int .i64 N, .slice ta tl tc, .int .i64 (nx : Nat)] 129)).heap.size := by simp; omega
 have HK0 : Hid (KR w (w.alloc (.cells #[.int .i64 (pl : Nat), .int .i64 11, .int .i64 N, .slice ta tl tc, .int .i64 (nx : Nat)] 129))) := KR.below (boxB w _)
 have t0 := topN_lt hv 0
 have hD1 : (dropN m.st 1).length = m.st.length - 1 := dropN_len _ _
 have HD1 := hidc hD1
 clear h hD1
 go_enter Tryz.func69, Tryz.ntmps69
 go_wp2_with fail
 refine (run_pop HM.out hB1 (by omega) (by omega)).mono ?_
 rintro e w2 ⟨rfl, ⟨v2, hw2⟩, hm2, hB2, hk2, hs2⟩
 have HM2 := hidc hm2
 have HK2 := hidc hk2
 have x0 := hk2.box 0
 have x1 := hk2.box 1
 have x2 := hk2.box 2
 have x3 := hk2.box 3
 have x4 := hk2.box 4
 simp only [List.getElem?_toArray, List.getElem?_cons_zero, List.getElem?_cons_succ] at x0 x1 x2 x3 x4
 have hs2' : w.heap.size < w2.heap.size := by simp at hs2; omega
 have hM2 := hm2.size
 clear hm2 hk2 hw2
 obtain ⟨V, hq⟩ := HM2.out
 have cm := hq.cm _ ha
 have hml := hq.mlen
 clear hq
 have hlm : m.mem.getD (topN m.st 0) 0 < 65536 := by
  have hlt : topN m.st 0 < m.mem.length := by have : m.mem.length = 16 := hml; omega
  rw [List.getD, List.getElem?_eq_getElem hlt]
  exact hmm _ (List.getElem_mem _)
 have HBY : Hid (w16 (m.mem.getD (topN m.st 0) 0 : Nat) = m.mem.getD (topN m.st 0) 0) := by
  show w16 (m.mem.getD (topN m.st 0) 0 : Nat) = m.mem.getD (topN m.st 0) 0
  unfold w16; omega
 dsimp only at cm
 clear hml
 generalize hag : topN m.st 0 = a at *
 clear hag
 generalize hmg : m.mem.getD a 0 = mv at *
 have HMG := hidc hmg
 clear hmg
 go_wp2_with fail
 refine (run_lay HM2.out hB2 (mv : Nat) (by omega) (by omega) (by simp only [HD1.out]; omega)).mono ?_
 rintro e w3 ⟨rfl, hm3, hB3, hk3, hs3⟩
 have HM3 := hidc hm3
 have HK3 := hidc hk3
 clear hm3 hk3
 go_wp2_with fail
 go_end0
 exact ⟨rfl, HM3.out.mk' (by rw [HBY.out]), hB3, (HK0.out.trans HK2.out).trans HK3.out, by simp at hs2; omega⟩
theorem run_words_11w {w0 w : World} {M B : Nat} {sv : Value} {d : ByteArray} {m : MS} {T : List (Nat × Nat × Int)} (h : RumX w0 w M B sv d m T) (hB : B ≤ w.heap.size) (pl nx tl tc : Nat) (N : Int) (ta : Option Addr) (hl : m.st.length ≤ 100) (h1 : m.base + 1 ≤ m.st.length) (hv : ∀ v ∈ m.st, v < 65536) (ha : ¬ topN m.st 0 < 16) :
  Calls Tryz.prog 69 #[.pointer (some ⟨M, 0, none⟩), .agg #[.int .i64 (pl : Nat), .int .i64 11, .int .i64 N, .slice ta tl tc, .int .i64 (nx : Nat)]] w (RDo w0 w M B sv d ({ m with st := dropN m.st 1, fin := some 5 }) T) := by
 have hM := h.size
 have hlt := h.lt
 have HM := hidc (h.below (boxB w (.cells #[.int .i64 (pl : Nat), .int .i64 11, .int .i64 N, .slice ta tl tc, .int .i64 (nx : Nat)] 129)) hB)
 have hB1 : B ≤ (w.alloc (.cells #[.int .i64 (pl : Nat), .int .i64 11, .int .i64 N, .slice ta tl tc, .int .i64 (nx : Nat)] 129)).heap.size := by simp; omega
 have HK0 : Hid (KR w (w.alloc (.cells #[.int .i64 (pl : Nat), .int .i64 11, .int .i64 N, .slice ta tl tc, .int .i64 (nx : Nat)] 129))) := KR.below (boxB w _)
 have t0 := topN_lt hv 0
 have hD1 : (dropN m.st 1).length = m.st.length - 1 := dropN_len _ _
 have HD1 := hidc hD1
 clear h hD1
 go_enter Tryz.func69, Tryz.ntmps69
 go_wp2_with fail
 refine (run_pop HM.out hB1 (by omega) (by omega)).mono ?_
 rintro e w2 ⟨rfl, ⟨v2, hw2⟩, hm2, hB2, hk2, hs2⟩
 have HM2 := hidc hm2
 have HK2 := hidc hk2
 have x0 := hk2.box 0
 have x1 := hk2.box 1
 have x2 := hk2.box 2
 have x3 := hk2.box 3
 have x4 := hk2.box 4
 simp only [List.getElem?_toArray, List.getElem?_cons_zero, List.getElem?_cons_succ] at x0 x1 x2 x3 x4
 have hs2' : w.heap.size < w2.heap.size := by simp at hs2; omega
 have hM2 := hm2.size
 clear hm2 hk2 hw2
 generalize hag : topN m.st 0 = a at *
 clear hag
 go_wp2_with fail
 refine (run_ends HM2.out hB2 5).mono ?_
 rintro e w5 ⟨rfl, hm5, hB5, hk5, hs5⟩
 have HM5 := hidc hm5
 have HK5 := hidc hk5
 clear hm5 hk5
 go_wp2_with fail
 go_end0
 exact ⟨rfl, HM5.out, hB5, (HK0.out.trans HK2.out).trans HK5.out, by simp at hs2; omega⟩
theorem run_words_12w {w0 w : World} {M B : Nat} {sv : Value} {d : ByteArray} {m : MS} {T : List (Nat × Nat × Int)} (h : RumX w0 w M B sv d m T) (hB : B ≤ w.heap.size) (pl nx tl tc : Nat) (N : Int) (ta : Option Addr) (hl : m.st.length ≤ 100) (_h1 : m.base + 1 ≤ m.st.length) (hv : ∀ v ∈ m.st, v < 65536) (h2 : m.base + 2 ≤ m.st.length) (ha : ¬ topN m.st 0 < 16) :
  Calls Tryz.prog 69 #[.pointer (some ⟨M, 0, none⟩), .agg #[.int .i64 (pl : Nat), .int .i64 12, .int .i64 N, .slice ta tl tc, .int .i64 (nx : Nat)]] w (RDo w0 w M B sv d ({ m with st := dropN m.st 2, fin := some 5 }) T) := by
 have hM := h.size
 have hlt := h.lt
 have HM := hidc (h.below (boxB w (.cells #[.int .i64 (pl : Nat), .int .i64 12, .int .i64 N, .slice ta tl tc, .int .i64 (nx : Nat)] 129)) hB)
 have hB1 : B ≤ (w.alloc (.cells #[.int .i64 (pl : Nat), .int .i64 12, .int .i64 N, .slice ta tl tc, .int .i64 (nx : Nat)] 129)).heap.size := by simp; omega
 have HK0 : Hid (KR w (w.alloc (.cells #[.int .i64 (pl : Nat), .int .i64 12, .int .i64 N, .slice ta tl tc, .int .i64 (nx : Nat)] 129))) := KR.below (boxB w _)
 have t0 := topN_lt hv 0
 have hD1 : (dropN m.st 1).length = m.st.length - 1 := dropN_len _ _
 have HD1 := hidc hD1
 clear h hD1
 go_enter Tryz.func69, Tryz.ntmps69
 go_wp2_with fail
 refine (run_pop HM.out hB1 (by omega) (by omega)).mono ?_
 rintro e w2 ⟨rfl, ⟨v2, hw2⟩, hm2, hB2, hk2, hs2⟩
 have HM2 := hidc hm2
 have HK2 := hidc hk2
 have x0 := hk2.box 0
 have x1 := hk2.box 1
 have x2 := hk2.box 2
 have x3 := hk2.box 3
 have x4 := hk2.box 4
 simp only [List.getElem?_toArray, List.getElem?_cons_zero, List.getElem?_cons_succ] at x0 x1 x2 x3 x4
 have hs2' : w.heap.size < w2.heap.size := by simp at hs2; omega
 have hM2 := hm2.size
 clear hm2 hk2 hw2
 have HT := hidc (topN_drop m.st (by omega))
 have HDD := hidc (dropN_drop m.st)
 generalize hag : topN m.st 0 = a at *
 clear hag
 go_wp2_with fail
 refine (run_pop HM2.out hB2 (by simp only [HD1.out]; omega) (by simp only [HD1.out]; omega)).mono ?_
 rintro e w4 ⟨rfl, ⟨v4, hw4⟩, hm4, hB4, hk4, hs4⟩
 have HM4 := hidc (hm4.mk' (m' := { m with st := dropN m.st 2 }) (by rw [HDD.out]))
 have HK4 := hidc hk4
 have hM4 := hm4.size
 rw [HT.out]
 clear hm4 hk4 hw4
 go_wp2_with fail
 refine (run_ends HM4.out hB4 5).mono ?_
 rintro e w5 ⟨rfl, hm5, hB5, hk5, hs5⟩
 have HM5 := hidc hm5
 have HK5 := hidc hk5
 clear hm5 hk5
 go_wp2_with fail
 go_end0
 exact ⟨rfl, HM5.out, hB5, ((HK0.out.trans HK2.out).trans HK4.out).trans HK5.out, by simp at hs2; omega⟩
theorem run_words_12n {w0 w : World} {M B : Nat} {sv : Value} {d : ByteArray} {m : MS} {T : List (Nat × Nat × Int)} (h : RumX w0 w M B sv d m T) (hB : B ≤ w.heap.size) (pl nx tl tc : Nat) (N : Int) (ta : Option Addr) (hl : m.st.length ≤ 100) (_h1 : m.base + 1 ≤ m.st.length) (hv : ∀ v ∈ m.st, v < 65536) (h2 : m.base + 2 ≤ m.st.length) (ha : topN m.st 0 < 16) :
  Calls Tryz.prog 69 #[.pointer (some ⟨M, 0, none⟩), .agg #[.int .i64 (pl : Nat), .int .i64 12, .int .i64 N, .slice ta tl tc, .int .i64 (nx : Nat)]] w (RDo w0 w M B sv d ({ m with st := dropN m.st 2, mem := m.mem.set (topN m.st 0) (topN m.st 1) }) T) := by
 have hM := h.size
 have hlt := h.lt
 have HM := hidc (h.below (boxB w (.cells #[.int .i64 (pl : Nat), .int .i64 12, .int .i64 N, .slice ta tl tc, .int .i64 (nx : Nat)] 129)) hB)
 have hB1 : B ≤ (w.alloc (.cells #[.int .i64 (pl : Nat), .int .i64 12, .int .i64 N, .slice ta tl tc, .int .i64 (nx : Nat)] 129)).heap.size := by simp; omega
 have HK0 : Hid (KR w (w.alloc (.cells #[.int .i64 (pl : Nat), .int .i64 12, .int .i64 N, .slice ta tl tc, .int .i64 (nx : Nat)] 129))) := KR.below (boxB w _)
 have t0 := topN_lt hv 0
 have hD1 : (dropN m.st 1).length = m.st.length - 1 := dropN_len _ _
 have HD1 := hidc hD1
 clear h hD1
 go_enter Tryz.func69, Tryz.ntmps69
 go_wp2_with fail
 refine (run_pop HM.out hB1 (by omega) (by omega)).mono ?_
 rintro e w2 ⟨rfl, ⟨v2, hw2⟩, hm2, hB2, hk2, hs2⟩
 have HM2 := hidc hm2
 have HK2 := hidc hk2
 have x0 := hk2.box 0
 have x1 := hk2.box 1
 have x2 := hk2.box 2
 have x3 := hk2.box 3
 have x4 := hk2.box 4
 simp only [List.getElem?_toArray, List.getElem?_cons_zero, List.getElem?_cons_succ] at x0 x1 x2 x3 x4
 have hs2' : w.heap.size < w2.heap.size := by simp at hs2; omega
 have hM2 := hm2.size
 clear hm2 hk2 hw2
 have HT := hidc (topN_drop m.st (by omega))
 have HDD := hidc (dropN_drop m.st)
 generalize hag : topN m.st 0 = a at *
 clear hag
 go_wp2_with fail
 refine (run_pop HM2.out hB2 (by simp only [HD1.out]; omega) (by simp only [HD1.out]; omega)).mono ?_
 rintro e w4 ⟨rfl, ⟨v4, hw4⟩, hm4, hB4, hk4, hs4⟩
 have HM4 := hidc (hm4.mk' (m' := { m with st := dropN m.st 2 }) (by rw [HDD.out]))
 have HK4 := hidc hk4
 have hM4 := hm4.size
 rw [HT.out]
 clear hm4 hk4 hw4
 obtain ⟨V, hq⟩ := HM4.out
 have cm := hq.cm _ ha
 have fm := hq.froz (7 + a)
 dsimp only at cm
 have HS := hidc (hq.set_mem a (topN m.st 1) ha)
 have HKS := hidc (hq.kr (7 + a) (.int .i64 (topN m.st 1 : Nat)))
 clear hq
 generalize hmg : m.mem.getD a 0 = mv at *
 clear hmg
 go_wp2_with fail
 go_end0
 exact ⟨rfl, ⟨_, HS.out⟩, by simpa [World.setCell] using hB4, ((HK0.out.trans HK2.out).trans HK4.out).trans HKS.out, by simp [World.setCell]; simp at hs2; omega⟩
theorem run_words_14 {w0 w : World} {M B : Nat} {sv : Value} {d : ByteArray} {m : MS} {T : List (Nat × Nat × Int)} (h : RumX w0 w M B sv d m T) (hB : B ≤ w.heap.size) (pl nx tl tc : Nat) (N : Int) (ta : Option Addr) (hl : m.st.length ≤ 100) (h1 : m.base + 1 ≤ m.st.length) (hv : ∀ v ∈ m.st, v < 65536) (ho : m.out.length ≤ 4000) :
  Calls Tryz.prog 69 #[.pointer (some ⟨M, 0, none⟩), .agg #[.int .i64 (pl : Nat), .int .i64 14, .int .i64 N, .slice ta tl tc, .int .i64 (nx : Nat)]] w (RDo w0 w M B sv d ({ m with st := dropN m.st 1, out := m.out ++ [topN m.st 0] }) T) := by
 have hM := h.size
 have hlt := h.lt
 have HM := hidc (h.below (boxB w (.cells #[.int .i64 (pl : Nat), .int .i64 14, .int .i64 N, .slice ta tl tc, .int .i64 (nx : Nat)] 129)) hB)
 have hB1 : B ≤ (w.alloc (.cells #[.int .i64 (pl : Nat), .int .i64 14, .int .i64 N, .slice ta tl tc, .int .i64 (nx : Nat)] 129)).heap.size := by simp; omega
 have HK0 : Hid (KR w (w.alloc (.cells #[.int .i64 (pl : Nat), .int .i64 14, .int .i64 N, .slice ta tl tc, .int .i64 (nx : Nat)] 129))) := KR.below (boxB w _)
 have t0 := topN_lt hv 0
 have hD1 : (dropN m.st 1).length = m.st.length - 1 := dropN_len _ _
 have HD1 := hidc hD1
 clear h hD1
 obtain ⟨iz, hiz, hzz0, hzz1, hzz2⟩ := info_parts Tryz.infoInt
 go_enter Tryz.func69, Tryz.ntmps69
 go_wp2_with fail
 refine (run_pop HM.out hB1 (by omega) (by omega)).mono ?_
 rintro e w2 ⟨rfl, ⟨v2, hw2⟩, hm2, hB2, hk2, hs2⟩
 have HM2 := hidc hm2
 have HK2 := hidc hk2
 have x0 := hk2.box 0
 have x1 := hk2.box 1
 have x2 := hk2.box 2
 have x3 := hk2.box 3
 have x4 := hk2.box 4
 simp only [List.getElem?_toArray, List.getElem?_cons_zero, List.getElem?_cons_succ] at x0 x1 x2 x3 x4
 have hs2' : w.heap.size < w2.heap.size := by simp at hs2; omega
 have hM2 := hm2.size
 clear hm2 hk2 hw2
 obtain ⟨V, hq⟩ := HM2.out
 have c26 := hq.c26
 obtain ⟨oa, oc, hV⟩ := row_form hq.out
 rw [hV] at c26
 dsimp only at c26
 generalize hag : topN m.st 0 = a at *
 clear hag
 have HQ := hidc (hq.below (boxB w2 (.cells #[.int .i64 (a : Nat)] 3)) hB2)
 have HS : Hid ((w2.alloc (.cells #[.int .i64 (a : Nat)] 3)).ownsRow B 3 1 (.slice oa m.out.length oc) m.out.length (nV m.out)) := by
  have := HQ.out.out
  rw [hV] at this
  exact this
 have HKa : Hid (KR w2 (w2.alloc (.cells #[.int .i64 (a : Nat)] 3))) := KR.below (boxB w2 _)
 have HV := hidc hV
 clear hq hV
 go_wp2_with (at_builtin; refine wpList_append_lies _ rfl (.tmp 49) (.tmp 51) 22 rfl B 3 iz (.int .i64 0) 1 8 Tryz.underlying22 hiz hzz0 hzz1 hzz2 rfl (by decide) _ m.out.length (nV m.out) rfl HS.out ⟨w2.heap.size, 0, none⟩ 1 1 [.int .i64 (a : Nat)] rfl rfl (newsNr _ _ _ rfl) (one1c _) (by decide) (by unfold maxLen; omega) (by omega) (by simp; omega) _ rfl ?_)
 intro ga ca w5 hown5 hgrow5 hat5 hlt5
 have hl5 : (m.out ++ [a]).length = m.out.length + 1 := by simp
 have hown' : w5.ownsRow B 3 1 (.slice (some ⟨ga, 0, none⟩) (m.out ++ [a]).length ca) (m.out ++ [a]).length (nV (m.out ++ [a])) := by
  rw [hl5, show nV (m.out ++ [a]) = nV m.out ++ [.int .i64 (a : Nat)] by simp [nV]]
  exact hown5
 rw [← HV.out] at hgrow5 hat5
 have HG := hidc (HQ.out.grow_out (by simp; omega) ga ca (m.out ++ [a]) hgrow5 hown' (by simpa using hat5))
 rw [hl5] at HG
 have hB5 : B ≤ w5.heap.size := by have := hgrow5.size; simp at this; omega
 have hS5 : w2.heap.size ≤ w5.heap.size := by have := hgrow5.size; simp at this; omega
 obtain ⟨hc5, ⟨cs5, e5, _⟩, _⟩ := HQ.out.grown hgrow5 (by simp; omega) (fun k hk => (HQ.out.out.lt k hk).1)
 have HK5 : Hid (KR w2 (w5.setCell ⟨M, 26, none⟩ (.slice (some ⟨ga, 0, none⟩) (m.out.length + 1) ca))) := (HKa.out.trans (KR.grown HQ.out.out hgrow5 (.inl rfl))).trans (KR.setTy e5 (.inl rfl) _ _)
 have c5' : w5.cell? ⟨M, 26, none⟩ = some V.out := (hc5 26).trans HQ.out.c26
 have f5' : w5.frozen? ⟨M, 26, none⟩ = false := unfrozen_of_block e5 26
 have hM5 : M < w5.heap.size := by omega
 clear hown5 hgrow5 hat5 hlt5 hown' c26 hc5 e5 hl5
 go_wp2_with fail
 go_end0
 exact ⟨rfl, ⟨_, HG.out⟩, by simpa [World.setCell] using hB5, (HK0.out.trans HK2.out).trans HK5.out, by simp [World.setCell]; simp at hs2; omega⟩
theorem run_jumps_15 {w0 w : World} {M B : Nat} {sv : Value} {d : ByteArray} {m : MS} {T : List (Nat × Nat × Int)} (h : RumX w0 w M B sv d m T) (hB : B ≤ w.heap.size) (pl nx tl tc : Nat) (N : Int) (g off : Nat) (hgw : g < w.heap.size) (_hgM : g ≠ M) (t : Nat) (hct : w.cell? ⟨g, off, none⟩ = some (.int .i64 (t : Nat))) (htl : 1 ≤ tl) :
  Calls Tryz.prog 70 #[.pointer (some ⟨M, 0, none⟩), .agg #[.int .i64 (pl : Nat), .int .i64 15, .int .i64 N, .slice (some ⟨g, off, none⟩) tl tc, .int .i64 (nx : Nat)]] w (RDo w0 w M B sv d ({ m with pl := t }) T) := by
 have hM := h.size
 have hlt := h.lt
 obtain ⟨V, hq⟩ := h
 have c3 := hq.c3
 have f3 := hq.froz 3
 have HP := hidc ((hq.set_pl t).below (boxB _ (.cells #[.int .i64 (pl : Nat), .int .i64 15, .int .i64 N, .slice (some ⟨g, off, none⟩) tl tc, .int .i64 (nx : Nat)] 129)) (by simpa [World.setCell] using hB))
 have HK0 : Hid (KR w ((w.setCell ⟨M, 3, none⟩ (.int .i64 (t : Nat))).alloc (.cells #[.int .i64 (pl : Nat), .int .i64 15, .int .i64 N, .slice (some ⟨g, off, none⟩) tl tc, .int .i64 (nx : Nat)] 129))) := (hq.kr 3 (.int .i64 (t : Nat))).trans (KR.below (boxB _ _))
 clear hq
 go_enter Tryz.func70, Tryz.ntmps70
 go_wp2_with fail
 go_end0
 exact ⟨rfl, ⟨_, HP.out⟩, by simp [World.setCell]; omega, HK0.out, by simp [World.setCell]⟩
theorem run_jumps_16n {w0 w : World} {M B : Nat} {sv : Value} {d : ByteArray} {m : MS} {T : List (Nat × Nat × Int)} (h : RumX w0 w M B sv d m T) (hB : B ≤ w.heap.size) (pl nx tl tc : Nat) (N : Int) (ta : Option Addr) (hl : m.st.length ≤ 100) (h1 : m.base + 1 ≤ m.st.length) (hv : ∀ v ∈ m.st, v < 65536) (ha : topN m.st 0 = 0) :
  Calls Tryz.prog 70 #[.pointer (some ⟨M, 0, none⟩), .agg #[.int .i64 (pl : Nat), .int .i64 16, .int .i64 N, .slice ta tl tc, .int .i64 (nx : Nat)]] w (RDo w0 w M B sv d ({ m with st := dropN m.st 1 }) T) := by
 have hM := h.size
 have hlt := h.lt
 have HM := hidc (h.below (boxB w (.cells #[.int .i64 (pl : Nat), .int .i64 16, .int .i64 N, .slice ta tl tc, .int .i64 (nx : Nat)] 129)) hB)
 have hB1 : B ≤ (w.alloc (.cells #[.int .i64 (pl : Nat), .int .i64 16, .int .i64 N, .slice ta tl tc, .int .i64 (nx : Nat)] 129)).heap.size := by simp; omega
 have HK0 : Hid (KR w (w.alloc (.cells #[.int .i64 (pl : Nat), .int .i64 16, .int .i64 N, .slice ta tl tc, .int .i64 (nx : Nat)] 129))) := KR.below (boxB w _)
 have t0 := topN_lt hv 0
 have hD1 : (dropN m.st 1).length = m.st.length - 1 := dropN_len _ _
 have HD1 := hidc hD1
 clear h hD1
 go_enter Tryz.func70, Tryz.ntmps70
 go_wp2_with fail
 refine (run_pop HM.out hB1 (by omega) (by omega)).mono ?_
 rintro e w2 ⟨rfl, ⟨v2, hw2⟩, hm2, hB2, hk2, hs2⟩
 have HM2 := hidc hm2
 have HK2 := hidc hk2
 have x0 := hk2.box 0
 have x1 := hk2.box 1
 have x2 := hk2.box 2
 have x3 := hk2.box 3
 have x4 := hk2.box 4
 simp only [List.getElem?_toArray, List.getElem?_cons_zero, List.getElem?_cons_succ] at x0 x1 x2 x3 x4
 have hs2' : w.heap.size < w2.heap.size := by simp at hs2; omega
 have hM2 := hm2.size
 have hg2 : ∀ g j v, g < w.heap.size → g ≠ M → w.cell? ⟨g, j, none⟩ = some v → w2.cell? ⟨g, j, none⟩ = some v := fun g j v hg hgM hc => by rw [hw2, mset_other (fun e => hgM (by injection e with e1; exact e1.symm))]; exact (cell_al _ hg).trans hc
 clear hm2 hk2 hw2
 have ha' : ((topN m.st 0 : Int) != 0) = false := by simp [ha]
 generalize hag : topN m.st 0 = a at *
 clear hag
 go_wp2_with fail
 go_end0
 exact ⟨rfl, HM2.out, hB2, HK0.out.trans HK2.out, by simp at hs2; omega⟩
theorem run_jumps_16y {w0 w : World} {M B : Nat} {sv : Value} {d : ByteArray} {m : MS} {T : List (Nat × Nat × Int)} (h : RumX w0 w M B sv d m T) (hB : B ≤ w.heap.size) (pl nx tl tc : Nat) (N : Int) (hl : m.st.length ≤ 100) (h1 : m.base + 1 ≤ m.st.length) (hv : ∀ v ∈ m.st, v < 65536) (g off : Nat) (hgw : g < w.heap.size) (hgM : g ≠ M) (t : Nat) (hct : w.cell? ⟨g, off, none⟩ = some (.int .i64 (t : Nat))) (htl : 1 ≤ tl) (ha : topN m.st 0 ≠ 0) :
  Calls Tryz.prog 70 #[.pointer (some ⟨M, 0, none⟩), .agg #[.int .i64 (pl : Nat), .int .i64 16, .int .i64 N, .slice (some ⟨g, off, none⟩) tl tc, .int .i64 (nx : Nat)]] w (RDo w0 w M B sv d ({ m with st := dropN m.st 1, pl := t }) T) := by
 have hM := h.size
 have hlt := h.lt
 have HM := hidc (h.below (boxB w (.cells #[.int .i64 (pl : Nat), .int .i64 16, .int .i64 N, .slice (some ⟨g, off, none⟩) tl tc, .int .i64 (nx : Nat)] 129)) hB)
 have hB1 : B ≤ (w.alloc (.cells #[.int .i64 (pl : Nat), .int .i64 16, .int .i64 N, .slice (some ⟨g, off, none⟩) tl tc, .int .i64 (nx : Nat)] 129)).heap.size := by simp; omega
 have HK0 : Hid (KR w (w.alloc (.cells #[.int .i64 (pl : Nat), .int .i64 16, .int .i64 N, .slice (some ⟨g, off, none⟩) tl tc, .int .i64 (nx : Nat)] 129))) := KR.below (boxB w _)
 have t0 := topN_lt hv 0
 have hD1 : (dropN m.st 1).length = m.st.length - 1 := dropN_len _ _
 have HD1 := hidc hD1
 clear h hD1
 go_enter Tryz.func70, Tryz.ntmps70
 go_wp2_with fail
 refine (run_pop HM.out hB1 (by omega) (by omega)).mono ?_
 rintro e w2 ⟨rfl, ⟨v2, hw2⟩, hm2, hB2, hk2, hs2⟩
 have HM2 := hidc hm2
 have HK2 := hidc hk2
 have x0 := hk2.box 0
 have x1 := hk2.box 1
 have x2 := hk2.box 2
 have x3 := hk2.box 3
 have x4 := hk2.box 4
 simp only [List.getElem?_toArray, List.getElem?_cons_zero, List.getElem?_cons_succ] at x0 x1 x2 x3 x4
 have hs2' : w.heap.size < w2.heap.size := by simp at hs2; omega
 have hM2 := hm2.size
 have hg2 : ∀ g j v, g < w.heap.size → g ≠ M → w.cell? ⟨g, j, none⟩ = some v → w2.cell? ⟨g, j, none⟩ = some v := fun g j v hg hgM hc => by rw [hw2, mset_other (fun e => hgM (by injection e with e1; exact e1.symm))]; exact (cell_al _ hg).trans hc
 clear hm2 hk2 hw2
 obtain ⟨V, hq⟩ := HM2.out
 have c3 := hq.c3
 have f3 := hq.froz 3
 have HP := hidc (hq.set_pl t)
 have HKP := hidc (hq.kr 3 (.int .i64 (t : Nat)))
 have ct2 := hg2 _ _ _ hgw hgM hct
 have hgw2 : g < w2.heap.size := by omega
 dsimp only at c3
 clear hq hg2 hct
 have ha' : ((topN m.st 0 : Int) != 0) = true := by simp; omega
 generalize hag : topN m.st 0 = a at *
 clear hag
 go_wp2_with fail
 go_end0
 exact ⟨rfl, ⟨_, HP.out⟩, by simpa [World.setCell] using hB2, (HK0.out.trans HK2.out).trans HKP.out, by simp [World.setCell]; simp at hs2; omega⟩
theorem run_jumps_17n {w0 w : World} {M B : Nat} {sv : Value} {d : ByteArray} {m : MS} {T : List (Nat × Nat × Int)} (h : RumX w0 w M B sv d m T) (hB : B ≤ w.heap.size) (pl nx tl tc : Nat) (N : Int) (ta : Option Addr) (hl : m.st.length ≤ 100) (h1 : m.base + 1 ≤ m.st.length) (hv : ∀ v ∈ m.st, v < 65536) (ha : ¬ topN m.st 0 < tl) :
  Calls Tryz.prog 70 #[.pointer (some ⟨M, 0, none⟩), .agg #[.int .i64 (pl : Nat), .int .i64 17, .int .i64 N, .slice ta tl tc, .int .i64 (nx : Nat)]] w (RDo w0 w M B sv d ({ m with st := dropN m.st 1 }) T) := by
 have hM := h.size
 have hlt := h.lt
 have HM := hidc (h.below (boxB w (.cells #[.int .i64 (pl : Nat), .int .i64 17, .int .i64 N, .slice ta tl tc, .int .i64 (nx : Nat)] 129)) hB)
 have hB1 : B ≤ (w.alloc (.cells #[.int .i64 (pl : Nat), .int .i64 17, .int .i64 N, .slice ta tl tc, .int .i64 (nx : Nat)] 129)).heap.size := by simp; omega
 have HK0 : Hid (KR w (w.alloc (.cells #[.int .i64 (pl : Nat), .int .i64 17, .int .i64 N, .slice ta tl tc, .int .i64 (nx : Nat)] 129))) := KR.below (boxB w _)
 have t0 := topN_lt hv 0
 have hD1 : (dropN m.st 1).length = m.st.length - 1 := dropN_len _ _
 have HD1 := hidc hD1
 clear h hD1
 go_enter Tryz.func70, Tryz.ntmps70
 go_wp2_with fail
 refine (run_pop HM.out hB1 (by omega) (by omega)).mono ?_
 rintro e w2 ⟨rfl, ⟨v2, hw2⟩, hm2, hB2, hk2, hs2⟩
 have HM2 := hidc hm2
 have HK2 := hidc hk2
 have x0 := hk2.box 0
 have x1 := hk2.box 1
 have x2 := hk2.box 2
 have x3 := hk2.box 3
 have x4 := hk2.box 4
 simp only [List.getElem?_toArray, List.getElem?_cons_zero, List.getElem?_cons_succ] at x0 x1 x2 x3 x4
 have hs2' : w.heap.size < w2.heap.size := by simp at hs2; omega
 have hM2 := hm2.size
 have hg2 : ∀ g j v, g < w.heap.size → g ≠ M → w.cell? ⟨g, j, none⟩ = some v → w2.cell? ⟨g, j, none⟩ = some v := fun g j v hg hgM hc => by rw [hw2, mset_other (fun e => hgM (by injection e with e1; exact e1.symm))]; exact (cell_al _ hg).trans hc
 clear hm2 hk2 hw2
 generalize hag : topN m.st 0 = a at *
 clear hag
 go_wp2_with fail
 go_end0
 exact ⟨rfl, HM2.out, hB2, HK0.out.trans HK2.out, by simp at hs2; omega⟩
theorem run_jumps_17y {w0 w : World} {M B : Nat} {sv : Value} {d : ByteArray} {m : MS} {T : List (Nat × Nat × Int)} (h : RumX w0 w M B sv d m T) (hB : B ≤ w.heap.size) (pl nx tl tc : Nat) (N : Int) (hl : m.st.length ≤ 100) (h1 : m.base + 1 ≤ m.st.length) (hv : ∀ v ∈ m.st, v < 65536) (g off : Nat) (hgw : g < w.heap.size) (hgM : g ≠ M) (t : Nat) (ha : topN m.st 0 < tl) (hct : w.cell? ⟨g, off + topN m.st 0, none⟩ = some (.int .i64 (t : Nat))) :
  Calls Tryz.prog 70 #[.pointer (some ⟨M, 0, none⟩), .agg #[.int .i64 (pl : Nat), .int .i64 17, .int .i64 N, .slice (some ⟨g, off, none⟩) tl tc, .int .i64 (nx : Nat)]] w (RDo w0 w M B sv d ({ m with st := dropN m.st 1, pl := t }) T) := by
 have hM := h.size
 have hlt := h.lt
 have HM := hidc (h.below (boxB w (.cells #[.int .i64 (pl : Nat), .int .i64 17, .int .i64 N, .slice (some ⟨g, off, none⟩) tl tc, .int .i64 (nx : Nat)] 129)) hB)
 have hB1 : B ≤ (w.alloc (.cells #[.int .i64 (pl : Nat), .int .i64 17, .int .i64 N, .slice (some ⟨g, off, none⟩) tl tc, .int .i64 (nx : Nat)] 129)).heap.size := by simp; omega
 have HK0 : Hid (KR w (w.alloc (.cells #[.int .i64 (pl : Nat), .int .i64 17, .int .i64 N, .slice (some ⟨g, off, none⟩) tl tc, .int .i64 (nx : Nat)] 129))) := KR.below (boxB w _)
 have t0 := topN_lt hv 0
 have hD1 : (dropN m.st 1).length = m.st.length - 1 := dropN_len _ _
 have HD1 := hidc hD1
 clear h hD1
 go_enter Tryz.func70, Tryz.ntmps70
 go_wp2_with fail
 refine (run_pop HM.out hB1 (by omega) (by omega)).mono ?_
 rintro e w2 ⟨rfl, ⟨v2, hw2⟩, hm2, hB2, hk2, hs2⟩
 have HM2 := hidc hm2
 have HK2 := hidc hk2
 have x0 := hk2.box 0
 have x1 := hk2.box 1
 have x2 := hk2.box 2
 have x3 := hk2.box 3
 have x4 := hk2.box 4
 simp only [List.getElem?_toArray, List.getElem?_cons_zero, List.getElem?_cons_succ] at x0 x1 x2 x3 x4
 have hs2' : w.heap.size < w2.heap.size := by simp at hs2; omega
 have hM2 := hm2.size
 have hg2 : ∀ g j v, g < w.heap.size → g ≠ M → w.cell? ⟨g, j, none⟩ = some v → w2.cell? ⟨g, j, none⟩ = some v := fun g j v hg hgM hc => by rw [hw2, mset_other (fun e => hgM (by injection e with e1; exact e1.symm))]; exact (cell_al _ hg).trans hc
 clear hm2 hk2 hw2
 obtain ⟨V, hq⟩ := HM2.out
 have c3 := hq.c3
 have f3 := hq.froz 3
 have HP := hidc (hq.set_pl t)
 have HKP := hidc (hq.kr 3 (.int .i64 (t : Nat)))
 have ct2 := hg2 _ _ _ hgw hgM hct
 have hgw2 : g < w2.heap.size := by omega
 dsimp only at c3
 clear hq hg2 hct
 generalize hag : topN m.st 0 = a at *
 clear hag
 go_wp2_with fail
 go_end0
 exact ⟨rfl, ⟨_, HP.out⟩, by simpa [World.setCell] using hB2, (HK0.out.trans HK2.out).trans HKP.out, by simp [World.setCell]; simp at hs2; omega⟩
end Go.Proofs.YtdhmandnamajpaaGreatDoor

/-
  The reference: unused.
-/
import Derived.Test.YtdhmandnamajpaaDoorSecA
import Derived.Test.YtdhmandnamajpaaDoorUsesC
import Derived.Test.YtdhmandnamajpaaDoorUsesB
import Derived.Test.YtdhmandnamajpaaDoorContA
import Derived.Test.YtdhmandnamajpaaDoorMFlow
namespace Go.Proofs.YtdhmandnamajpaaDoor
open Go.RowKit Go.Joins

set_option maxHeartbeats 4000000
set_option maxRecDepth 100000

theorem make_bools (n : Nat) (hn : n ≤ 6) (W : World) : (Instr.makeSlice 70 (.int .i64 (n : Int)) (.int .i64 (n : Int))).run Tryd.prog W = .ok (.slice (some ⟨W.heap.size, 0, none⟩) n n) (W.alloc (.cells (bV (List.replicate n false)) 4)) := by
  obtain ⟨ib, hib, hbz0, hbz1, hbz2⟩ := info_parts Tryd.infoBool
  have h := run_make (P := Tryd.prog) W 70 4 ib (.bool false) Tryd.underlying70 hib hbz0 .i64 .i64 (n : Int) (n : Int) (by omega) (by omega) (by rw [hbz2]; omega) (by omega)
  have e : madeCells (Value.bool false).cells (((n : Nat) : Int).toNat * ib.size) = bV (List.replicate n false) := by
    rw [hbz1, show ((n : Nat) : Int).toNat * 1 = n by simp]
    exact bV_made n
  rw [e] at h
  simpa using h

/-- unused's memory: the container in block n0, the marks in the next one. -/
structure NM (w0 w : World) (b off sl cap : Nat) (d : ByteArray) (us : List Bool) : Prop where
  u0 : w.cell? ⟨w0.heap.size, 0, none⟩ = some (.slice (some ⟨b, off, none⟩) sl cap)
  u1 : w.cell? ⟨w0.heap.size, 1, none⟩ = some (.string d)
  used : w.heap[w0.heap.size + 1]? = some (.cells (bV us) 4 (0, 0))
  bel : Below w0.heap.size w0 w
theorem NM.below {w0 w w' : World} {b off sl cap : Nat} {d : ByteArray} {us : List Bool} (h : NM w0 w b off sl cap d us) (hb : Below w.heap.size w w') : NM w0 w' b off sl cap d us := by
  have hs := blt h.used
  have hz := h.bel.size
  exact ⟨((bcell hb).1 _ _ (by omega)).trans h.u0, ((bcell hb).1 _ _ (by omega)).trans h.u1, keepB hb h.used, h.bel.trans (hb.mono hz)⟩
theorem NM.set {w0 w : World} {b off sl cap : Nat} {d : ByteArray} {us : List Bool} (h : NM w0 w b off sl cap d us) (t : Nat) : NM w0 (w.setCell ⟨w0.heap.size + 1, t, none⟩ (.bool true)) b off sl cap d (us.set t true) := by
  refine ⟨(set_other _ (by omega)).trans h.u0, (set_other _ (by omega)).trans h.u1, ?_, h.bel.setCell (by show w0.heap.size ≤ w0.heap.size + 1; omega) _⟩
  rw [← bV_set]
  exact block_setCell h.used _
theorem NM.get {w0 w : World} {b off sl cap : Nat} {d : ByteArray} {us : List Bool} (h : NM w0 w b off sl cap d us) (t : Nat) (ht : t < us.length) : w.cell? ⟨w0.heap.size + 1, t, none⟩ = some (.bool (us.getD t false)) := by
  rw [cell_of_block h.used, bV_get us t ht]
theorem NM.froz {w0 w : World} {b off sl cap : Nat} {d : ByteArray} {us : List Bool} (h : NM w0 w b off sl cap d us) (t : Nat) : w.frozen? ⟨w0.heap.size + 1, t, none⟩ = false := unfrozen_of_block h.used t

theorem setAll_snoc (us : List Bool) (ts : List Nat) (t : Nat) : setAll us (ts ++ [t]) = (setAll us ts).set t true := by simp [setAll]
theorem namedL_at (l : List Ins) (k : Nat) (x : Ins) (h : l[k]? = some x) : namedL (l.take (k + 1)) = if namesB x then namedL (l.take k) ++ [x.n] else namedL (l.take k) := by
  have hk : k < l.length := (List.getElem?_eq_some_iff.1 h).1
  have hx : l[k] = x := by rw [List.getElem?_eq_getElem hk] at h; injection h
  rw [List.take_succ_eq_append_getElem hk, hx]
  unfold namedL
  rw [List.filter_append]
  cases hn : namesB x <;> simp [hn]

/-- What unused answers. -/
def UnusPost (w : World) (S : List Sec) : Ending → World → Prop := fun e w' => ∃ r : Int, e = .returned (.int .i64 r) ∧ Below w.heap.size w w' ∧
  ((r = -1 ∧ ∀ j, j < S.length → Used S j) ∨ ∃ k : Nat, k < S.length ∧ r = k ∧ ¬ Used S k ∧ ∀ j, j < k → Used S j)

theorem ref_unused (S : List Sec) (d : ByteArray) (b off cap : Nat) (w : World) (hS : SecsAt w b off S) (hal : S.all secB = true) (hn : 1 ≤ S.length ∧ S.length ≤ 6) (hok : ∀ k (hk : k < S.length), (wholeE S S[k]).1 = 0) :
    Calls Tryd.prog 25 #[.agg #[.slice (some ⟨b, off, none⟩) S.length cap, .string d]] w (UnusPost w S) := by
  have hb := hS.1
  have HS := hidc hS
  have HOK := hidc hok
  have hmk := make_bools S.length hn.2
  have HNMS : Hid (∀ m ∈ nmsS S, ∀ t ∈ m, t < S.length) := by
    intro m hm t ht
    obtain ⟨s, hs, rfl⟩ := List.mem_map.1 hm
    obtain ⟨k, hk, rfl⟩ := List.getElem_of_mem hs
    exact (named_small (sec_get hal k hk) (hok k hk)).1 t ht
  have HDONE : Hid (∀ k, (roundsU (nmsS S) S.length ((List.replicate S.length false).set 0 true) S.length).getD k false = true ↔ Used S k) := by
    intro k
    rw [used_iff]
    exact rounds_done (nmsS S) S.length (by omega) (by simp [nmsS]) HNMS.out k
  clear hS hok
  have HU0 : Hid (NM w ((w.alloc (.cells #[.slice (some ⟨b, off, none⟩) S.length cap, .string d] 24)).alloc (.cells ((bV (List.replicate S.length false)).setIfInBounds 0 (.bool true)) 4)) b off S.length cap d ((List.replicate S.length false).set 0 true)) := by
    rw [bV_set]
    have k0 : ((w.alloc (.cells #[.slice (some ⟨b, off, none⟩) S.length cap, .string d] 24)).alloc (.cells (bV ((List.replicate S.length false).set 0 true)) 4)).heap[w.heap.size]? = some (.cells #[.slice (some ⟨b, off, none⟩) S.length cap, .string d] 24 (0, 0)) := (Below.heap_alloc _ _ _ (by simp)).trans (heap_alloc_new w _)
    refine ⟨?_, ?_, ?_, below2 _ _ _⟩
    · rw [cell_of_block k0]; rfl
    · rw [cell_of_block k0]; rfl
    · have := heap_alloc_new (w.alloc (.cells #[.slice (some ⟨b, off, none⟩) S.length cap, .string d] 24)) (.cells (bV ((List.replicate S.length false).set 0 true)) 4)
      simpa using this
  have hM0 : (bV (List.replicate S.length false))[0]? = some (.bool false) := by rw [bV_get _ _ (by simp; omega)]; simp [List.getD, show 0 < S.length by omega]
  generalize hus0 : (List.replicate S.length false).set 0 true = us0 at *
  have HL0 : Hid (us0.length = S.length) := by show us0.length = S.length; rw [← hus0]; simp
  clear hus0
  generalize hbv : bV (List.replicate S.length false) = bv0 at *
  clear hbv
  go_enter Tryd.func25, Tryd.ntmps25
  go_wp2_with fail
  generalize ((w.alloc (.cells #[.slice (some ⟨b, off, none⟩) S.length cap, .string d] 24)).alloc (.cells (bv0.setIfInBounds 0 (.bool true)) 4)) = w2 at *
  go_loopw [4] (fun iv wk => ∃ r : Nat, r ≤ S.length ∧ iv = .int .i64 r ∧ Hid (NM w wk b off S.length cap d (roundsU (nmsS S) S.length us0 r))) (fun iv _ => S.length - (intOf iv).toNat)
  case atStart => exact ⟨0, Nat.zero_le _, rfl, HU0.out⟩
  case round =>
    obtain ⟨r, hr, rfl, HM⟩ := hrel
    generalize hwr : wr = wa at *
    clear hwr
    have ua0 := HM.out.u0
    have hsa : w.heap.size + 1 < wa.heap.size := blt HM.out.used
    by_cases hrl : r < S.length
    · go_wp2_with fail
      go_loopw [5] (fun iv wk => ∃ k : Nat, k ≤ S.length ∧ iv = .int .i64 k ∧ Hid (NM w wk b off S.length cap d (roundU (nmsS S) (roundsU (nmsS S) S.length us0 r) k))) (fun iv _ => S.length - (intOf iv).toNat)
      case atStart => exact ⟨0, Nat.zero_le _, rfl, HM.out⟩
      case round =>
        clear HM ua0
        obtain ⟨k, hk, rfl, HM⟩ := hrel
        generalize hwr : wr = wb at *
        clear hwr
        have ua0 := HM.out.u0
        have hsb : w.heap.size + 1 < wb.heap.size := blt HM.out.used
        by_cases hkl : k < S.length
        · obtain ⟨c0, c1, c2, c3⟩ := (HS.out.below hb HM.out.bel).at k hkl
          have hq := (secB_iff _).1 (sec_get hal k hkl)
          have HSO := hidc (secOk (HOK.out k hkl))
          have HNK : Hid ((nmsS S).getD k [] = namedL (codeI S[k].code)) := by
            show (nmsS S).getD k [] = namedL (codeI S[k].code)
            simp [nmsS, List.getD, hkl]
          generalize hck : S[k].code = ck at *
          have HSP : Hid ((splitE ck).1 = 0) := by
            show (splitE ck).1 = 0
            rcases HSO.out.split with e | e
            · rw [hck] at e; rw [e]
            · rw [hck] at e; exact e
          have HRF : Hid (∀ (j : Nat) (x : Ins), (codeI ck)[j]? = some x → namesB x = true → x.n < S.length) := by
            intro j x hx hnx
            have hjl : j < (codeI ck).length := (List.getElem?_eq_some_iff.1 hx).1
            have h1 := HSO.out.ref j (by rw [hck]; exact hjl)
            rw [hck] at h1
            have hg : (codeI ck).getD j ins0 = x := by simp [List.getD, hx]
            rw [hg] at h1
            exact (ref_names h1).1 hnx
          have HULEN : Hid ((roundU (nmsS S) (roundsU (nmsS S) S.length us0 r) k).length = S.length) := by
            show (roundU (nmsS S) (roundsU (nmsS S) S.length us0 r) k).length = S.length
            rw [← (roundU_mn (nmsS S) _ k).1, roundsU_len, HL0.out]
          have HUN : Hid (∀ us', us' = procK (nmsS S) (roundU (nmsS S) (roundsU (nmsS S) S.length us0 r) k) k → us' = roundU (nmsS S) (roundsU (nmsS S) S.length us0 r) (k + 1)) := fun us' h => h
          clear hck HSO c0 c1 c2
          generalize roundU (nmsS S) (roundsU (nmsS S) S.length us0 r) k = usk at *
          go_wp2_with fail
          refine (ref_all ck _ hq.2.2.2.2).mono ?_
          rintro e w3 ⟨v, rfl, hb3, hall⟩
          obtain ⟨hch, xs, hmem⟩ := hall HSP.out
          have hl0 : 0 < (codeI ck).length := by
            cases hcl : codeI ck with
            | nil => rw [hcl] at hch; have : (0 : Nat) = ck.size := hch; omega
            | cons _ _ => simp
          have hlen : (codeI ck).length ≤ 120 := by have := chain_len hch; omega
          obtain ⟨g, cc, rfl, hri, _⟩ := hmem.rins hl0
          have HRI := hidc hri
          have HM3 := hidc (HM.out.below hb3)
          have hg3 : g < w3.heap.size := hri.lt
          have hgU : w.heap.size + 1 < g := by
            rcases hmem.row.2 with ⟨e1, _⟩ | ⟨g', cap', cur', hv', hb', _⟩
            · cases e1
            · injection hv' with h1 h2 h3
              injection h1 with h1
              injection h1 with h1
              omega
          rw [HSP.out]
          clear hb3 hall hch hmem hri HM ua0 c3
          generalize (splitE ck).2 = sp2
          generalize hlq : codeI ck = l at *
          clear hlq
          have ua0 := HM3.out.u0
          have hs3 : w.heap.size + 1 < w3.heap.size := blt HM3.out.used
          go_wp2_with fail
          go_loopw [9] (fun iv wk => ∃ i : Nat, i ≤ l.length ∧ iv = .int .i64 i ∧ Hid (NM w wk b off S.length cap d (if usk.getD k false then setAll usk (namedL (l.take i)) else usk)) ∧ Hid (∀ (j : Nat) (y : Ins), l[j]? = some y → wk.cell? ⟨g, j * 5 + 1, none⟩ = some (.int .i64 y.op) ∧ ∃ N, wk.cell? ⟨g, j * 5 + 2, none⟩ = some (.int .i64 N) ∧ numsAs y N) ∧ Hid (w3.heap.size ≤ wk.heap.size)) (fun iv _ => l.length - (intOf iv).toNat)
          case atStart =>
            refine ⟨0, Nat.zero_le _, rfl, ?_, fun j y hy => ?_, Nat.le_refl _⟩
            · have : (if usk.getD k false then setAll usk (namedL (l.take 0)) else usk) = usk := by simp [namedL, setAll]
              rw [this]; exact HM3.out
            · obtain ⟨_, q1, q2, _, _⟩ := HRI.out.cells j y hy
              exact ⟨q1, q2⟩
          case round =>
            clear HM3 ua0
            obtain ⟨i, hi, rfl, HM, HCL, HSZ⟩ := hrel
            have ua0 := HM.out.u0
            have hsr : w3.heap.size ≤ wr.heap.size := HSZ.out
            have HLEN2 : Hid ((if usk.getD k false then setAll usk (namedL (l.take i)) else usk).length = S.length) := by
              show (if usk.getD k false then setAll usk (namedL (l.take i)) else usk).length = S.length
              split
              · rw [setAll_len, HULEN.out]
              · exact HULEN.out
            have uk := HM.out.get k (by rw [HLEN2.out]; exact hkl)
            have HUK : Hid ((if usk.getD k false then setAll usk (namedL (l.take i)) else usk).getD k false = usk.getD k false) := by
              show (if usk.getD k false then setAll usk (namedL (l.take i)) else usk).getD k false = usk.getD k false
              cases hu : usk.getD k false with
              | false => rw [if_neg (by simp)]; exact hu
              | true => rw [if_pos rfl]; exact (setAll_get usk _ k).2 (.inl hu)
            rw [HUK.out] at uk
            by_cases hil : i < l.length
            · have hxi : l[i]? = some l[i] := by simp [hil]
              generalize l[i] = x at *
              obtain ⟨c1, N, c2, hN⟩ := HCL.out i x hxi
              have HNX := hidc (HRF.out i x hxi)
              have HNA := hidc hN
              have HNS := hidc (namedL_at l i x hxi)
              clear hxi hN
              cases hu : usk.getD k false with
              | false =>
                rw [hu] at uk HM HLEN2 HUK
                go_wp2_with fail
                go_roundw
                case rel => exact ⟨i + 1, by omega, by go_num, by first | exact HM.out | (rw [hu]; exact HM.out), HCL.out, hsr⟩
                case measure => simp [intOf]; omega
              | true =>
                rw [hu] at uk HM HLEN2 HUK
                rw [if_pos rfl] at HM HLEN2 HUK
                by_cases h18 : x.op = 18
                · have hnm : namesB x = true := by simp [namesB, h18]
                  rw [hnm, if_pos rfl] at HNS
                  have hxn := HNX.out hnm
                  obtain rfl : N = (x.n : Int) := HNA.out (by simp [numOp, h18])
                  have un := HM.out.get x.n (by rw [HLEN2.out]; exact hxn)
                  have fn := HM.out.froz x.n
                  have hUs : w.heap.size + 1 < wr.heap.size := blt HM.out.used
                  have HMS := hidc (HM.out.set x.n)
                  have HCS : Hid (∀ (j : Nat) (y : Ins), l[j]? = some y → (wr.setCell ⟨w.heap.size + 1, x.n, none⟩ (.bool true)).cell? ⟨g, j * 5 + 1, none⟩ = some (.int .i64 y.op) ∧ ∃ N, (wr.setCell ⟨w.heap.size + 1, x.n, none⟩ (.bool true)).cell? ⟨g, j * 5 + 2, none⟩ = some (.int .i64 N) ∧ numsAs y N) := by
                    intro j y hy
                    obtain ⟨q1, N', q2, q3⟩ := HCL.out j y hy
                    exact ⟨(set_other _ (by omega)).trans q1, N', (set_other _ (by omega)).trans q2, q3⟩
                  go_wp2_with fail
                  go_roundw
                  case rel => exact ⟨i + 1, by omega, by go_num, by (try rw [hu, if_pos rfl]); rw [HNS.out, setAll_snoc]; exact HMS.out, HCS.out, (by show w3.heap.size ≤ _; simpa [World.setCell] using hsr)⟩
                  case measure => simp [intOf]; omega
                · by_cases h20 : x.op = 20
                  · have hnm : namesB x = true := by simp [namesB, h20]
                    rw [hnm, if_pos rfl] at HNS
                    have hxn := HNX.out hnm
                    obtain rfl : N = (x.n : Int) := HNA.out (by simp [numOp, h20])
                    have un := HM.out.get x.n (by rw [HLEN2.out]; exact hxn)
                    have fn := HM.out.froz x.n
                    have hUs : w.heap.size + 1 < wr.heap.size := blt HM.out.used
                    have HMS := hidc (HM.out.set x.n)
                    have HCS : Hid (∀ (j : Nat) (y : Ins), l[j]? = some y → (wr.setCell ⟨w.heap.size + 1, x.n, none⟩ (.bool true)).cell? ⟨g, j * 5 + 1, none⟩ = some (.int .i64 y.op) ∧ ∃ N, (wr.setCell ⟨w.heap.size + 1, x.n, none⟩ (.bool true)).cell? ⟨g, j * 5 + 2, none⟩ = some (.int .i64 N) ∧ numsAs y N) := by
                      intro j y hy
                      obtain ⟨q1, N', q2, q3⟩ := HCL.out j y hy
                      exact ⟨(set_other _ (by omega)).trans q1, N', (set_other _ (by omega)).trans q2, q3⟩
                    go_wp2_with fail
                    go_roundw
                    case rel => exact ⟨i + 1, by omega, by go_num, by (try rw [hu, if_pos rfl]); rw [HNS.out, setAll_snoc]; exact HMS.out, HCS.out, (by show w3.heap.size ≤ _; simpa [World.setCell] using hsr)⟩
                    case measure => simp [intOf]; omega
                  · have hnm : namesB x = false := by simp [namesB, h18, h20]
                    rw [hnm] at HNS
                    have h18' : ((x.op : Int) == 18) = false := by simp; omega
                    have h20' : ((x.op : Int) == 20) = false := by simp; omega
                    go_wp2_with fail
                    go_roundw
                    case rel => exact ⟨i + 1, by omega, by go_num, by (try rw [hu, if_pos rfl]); rw [HNS.out]; exact HM.out, HCL.out, hsr⟩
                    case measure => simp [intOf]; omega
            · obtain rfl : i = l.length := by omega
              rw [List.take_length] at HM
              go_wp2_with fail
              go_roundw
              case rel =>
                refine ⟨k + 1, by omega, by go_num, ?_⟩
                rw [← HUN.out _ rfl]
                unfold procK
                rw [HNK.out]
                exact HM.out
              case measure => simp [intOf]; omega
        · obtain rfl : k = S.length := by omega
          go_wp2_with fail
          go_roundw
          case rel => exact ⟨r + 1, by omega, by go_num, HM.out⟩
          case measure => simp [intOf]; omega
    · obtain rfl : r = S.length := by omega
      have HULEN : Hid ((roundsU (nmsS S) S.length us0 S.length).length = S.length) := by
        show (roundsU (nmsS S) S.length us0 S.length).length = S.length
        rw [roundsU_len, HL0.out]
      generalize roundsU (nmsS S) S.length us0 S.length = usf at *
      go_wp2_with fail
      go_loopw [10] (fun iv wk => ∃ k : Nat, k ≤ S.length ∧ iv = .int .i64 k ∧ Hid (∀ j, j < k → Used S j) ∧ wk = wa) (fun iv _ => S.length - (intOf iv).toNat)
      case atStart => exact ⟨0, Nat.zero_le _, rfl, fun j hj => by omega, rfl⟩
      case round =>
        obtain ⟨k, hk, rfl, HJ, rfl⟩ := hrel
        by_cases hkl : k < S.length
        · have uk := HM.out.get k (by rw [HULEN.out]; exact hkl)
          cases hu : usf.getD k false with
          | true =>
            rw [hu] at uk
            have HUK : Hid (Used S k) := (HDONE.out k).1 hu
            go_wp2_with fail
            go_roundw
            case rel =>
              refine ⟨k + 1, by omega, by go_num, fun j hj => ?_, by trivial⟩
              by_cases e : j = k
              · subst e; exact HUK.out
              · exact HJ.out j (by omega)
            case measure => simp [intOf]; omega
          | false =>
            rw [hu] at uk
            have HUK : Hid (¬ Used S k) := fun h => by have := (HDONE.out k).2 h; rw [hu] at this; cases this
            go_wp2_with fail
            go_ret
            exact ⟨_, rfl, HM.out.bel, .inr ⟨k, hkl, rfl, HUK.out, HJ.out⟩⟩
        · have HALL : Hid (∀ j, j < S.length → Used S j) := fun j hj => HJ.out j (by omega)
          go_wp2_with fail
          go_ret
          exact ⟨_, rfl, HM.out.bel, .inl ⟨rfl, HALL.out⟩⟩
end Go.Proofs.YtdhmandnamajpaaDoor

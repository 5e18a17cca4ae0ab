/-
  Package check: named.
-/
import Derived.Test.YtdhmandnamajpaaDoorLookE
namespace Go.Proofs.YtdhmandnamajpaaDoor
open Go.RowKit Go.Joins

set_option maxHeartbeats 1000000

def nV (l : List Nat) : List Value := l.map (fun t => .int .i64 (t : Nat))
theorem nV_snoc (l : List Nat) (t : Nat) : nV (l ++ [t]) = nV l ++ [.int .i64 t] := by simp [nV]
theorem namedL_snoc (l : List Ins) (k : Nat) (hk : k < l.length) : namedL (l.take (k + 1)) = namedL (l.take k) ++ (if namesB l[k] then [l[k].n] else []) := by
  unfold namedL
  rw [List.take_succ_eq_append_getElem hk, List.filter_append, List.map_append]
  congr 1
  cases h : namesB l[k] <;> simp [h]
theorem namedL_len (l : List Ins) (k : Nat) : (namedL (l.take k)).length ≤ k := by
  unfold namedL
  rw [List.length_map]
  exact Nat.le_trans (List.length_filter_le _ _) (by simp; omega)

theorem news1n (w : World) (x : Value) (g : Nat) (hg : g = w.heap.size) : ∀ j u, [x][j]? = some u → (w.alloc (.cells #[x] 3)).cell? ((⟨g, 0, none⟩ : Addr).add j) = some u := by
  intro j u hj
  subst hg
  have hb : (w.alloc (.cells #[x] 3)).heap[w.heap.size]? = some (.cells #[x] 3 (0, 0)) := heap_alloc_new w _
  exact World.news_of_block hb j u hj

theorem look_named {w : World} {L H : Nat} {S : List Sec} {s : Sec} {b off cap g cc : Nat} {l : List Ins} (h : Look w L H S s b off cap g cc l) (hl : l.length ≤ 120) :
    Calls Tryd.prog 35 #[.pointer (some ⟨L, 0, none⟩)] w fun e w' => ∃ v, e = .returned v ∧ w'.ownsRow w.heap.size 3 1 v (namedL l).length (nV (namedL l)) ∧ Below w.heap.size w w' := by
  obtain ⟨iz, hiz, hzz0, hzz1, hzz2⟩ := info_parts Tryd.infoInt
  obtain ⟨f0, f1, f2, f3, f4, f5, f6, hL⟩ := h.facts
  have HL := hidc h
  clear h
  go_enter Tryd.func35, Tryd.ntmps35
  go_wp2_with fail
  clear f0 f1 f2 f3 f4 f5 f6
  go_loopw [3, 11] (fun pv iv wr => ∃ k : Nat, k ≤ l.length ∧ iv = .int .i64 k ∧ Hid (wr.ownsRow w.heap.size 3 1 pv (namedL (l.take k)).length (nV (namedL (l.take k)))) ∧ Hid (Below w.heap.size w wr)) (fun _ iv _ => l.length - (intOf iv).toNat)
  case atStart => exact ⟨0, Nat.zero_le _, rfl, ⟨by simp [namedL, nV], .inl ⟨rfl, by simp [namedL]⟩⟩, Below.refl _ _⟩
  case round =>
    obtain ⟨k, hk, rfl, HO, HB⟩ := hrel
    have hsz := HB.out.size
    by_cases hlt : k < l.length
    · obtain ⟨c0, c1, c2, c3, ⟨va, vc, c4, ht⟩, hg⟩ := (HL.out.below HB.out).ins k hlt
      have HN := hidc (namedL_snoc l k hlt)
      have hnl := namedL_len l k
      generalize l[k] = x at *
      clear ht
      cases hn : namesB x
      · rw [hn] at HN
        go_wp2_with (go_at_call 61; refine (check_names x _ _).mono ?_; rw [hn]; rintro e w1 ⟨rfl, hb1⟩)
        go_roundw
        case rel =>
          have hb : Below wr.heap.size wr w1 := ((Below.refl _ _).alloc (Nat.le_refl _) _).trans (hb1.mono (by simp))
          refine ⟨k + 1, by omega, by go_num, ?_, HB.out.trans (hb.mono hsz)⟩
          show w1.ownsRow _ _ _ _ _ _
          rw [HN.out]
          simpa using own_below HO.out hb
        case measure => simp [intOf]; omega
      · rw [hn] at HN
        go_wp2_with fail
        refine (check_names x _ _).mono ?_
        rw [hn]
        rintro e w1 ⟨rfl, hb1⟩
        have hb : Below wr.heap.size wr w1 := ((Below.refl _ _).alloc (Nat.le_refl _) _).trans (hb1.mono (by simp))
        have d3 : w1.cell? ⟨wr.heap.size, 3, none⟩ = some (.int .i64 x.n) := ((bcell hb1).1 _ _ (by simp)).trans (cell_nw rfl rfl)
        have HO1 := hidc (own_below HO.out hb)
        have HB1 := hidc (HB.out.trans (hb.mono hsz))
        have hsz1 : w.heap.size ≤ w1.heap.size := HB1.out.size
        clear hb1 hb
        generalize hm0 : (namedL (l.take k)).length = m0 at *
        have HM0 := hidc hm0
        clear hm0
        go_wp2_with (at_builtin; refine wpList_append_lies _ rfl (.tmp 17) (.tmp 20) 35 rfl w.heap.size 3 iz (.int .i64 0) 1 8 Tryd.underlying35 hiz hzz0 hzz1 hzz2 rfl (by decide) _ m0 (nV (namedL (l.take k))) rfl (HO1.out.alloc _) ⟨w1.heap.size, 0, none⟩ 1 1 [.int .i64 x.n] rfl rfl (news1n _ _ _ rfl) (one1c _) (by decide) (by unfold maxLen; omega) (by omega) (by simp; omega) _ rfl ?_; intro ga ca w5 hown5 hgrow5 hat5 hlt5; have HO5 := hidc hown5; have HB5 := hidc ((HB1.out.alloc hsz1 _).grown hgrow5 (by simp; omega) (fun j hj => (HO1.out.lt j hj).1)); clear hown5 hgrow5 hat5 hlt5)
        go_roundw
        case rel =>
          refine ⟨k + 1, by omega, by go_num, ?_, HB5.out⟩
          show w5.ownsRow _ _ _ _ _ _
          rw [HN.out]
          have := HO5.out
          simp only [if_true, List.length_append, List.length_cons, List.length_nil, Nat.zero_add, nV_snoc]
          rw [HM0.out]
          exact this
        case measure => simp [intOf]; omega
    · have hkl : k = l.length := by omega
      subst hkl
      rw [List.take_length] at HO
      go_wp2_with fail
      go_ret
      exact ⟨_, rfl, HO.out, HB.out⟩
end Go.Proofs.YtdhmandnamajpaaDoor

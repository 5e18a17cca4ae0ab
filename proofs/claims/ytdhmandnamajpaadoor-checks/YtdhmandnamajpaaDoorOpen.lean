/-
  A container that comes in, opened: its sections lie in memory.
-/
import Derived.Test.YtdhmandnamajpaaDoorPlain
import Derived.Test.YtdhmandnamajpaaDoorChecked
import Derived.ProofKit
import Derived.Lib.SmallJoins
import Derived.Deep.Slices
namespace Go.Proofs.YtdhmandnamajpaaDoor
open Go.ChangeShapes Go.WideShapes Go.ChangeAt Go.RowKit Go.Joins Go.Deep

set_option maxRecDepth 4000

theorem Tryd.cellsSec : Tryd.prog.cellsOf 33 = 4 := by kernel_rfl
theorem Tryd.cellsCont : Tryd.prog.cellsOf 24 = 2 := by kernel_rfl
theorem Tryd.cellsInt : Tryd.prog.cellsOf 3 = 1 := by kernel_rfl
theorem Tryd.cellsStr : Tryd.prog.cellsOf 9 = 1 := by kernel_rfl

section
variable {H : Type} {enc : TypeId × Value → H} {W : World}

/-- One section's cells, read. -/
theorem sec_cells {n : Nat} {cs : List Value} {y : DataW H × List MemPlace} (h : DataW.trod enc Tryd.prog W 0 (fun _ => true) true n 33 cs = some y) :
    ∃ s : Sec, cs = [.int .i64 s.i, .int .i64 s.o, .int .i64 s.m, .string s.code] ∧ s.code.size ≤ maxLen := by
  obtain ⟨y0, y1, y2, y3, m, _, hl, h0, h1, h2, h3⟩ := trod_struct4 Tryd.underlying33 h
  rw [Tryd.cellsSec] at hl
  match cs, hl with
  | [a, b, c, d], _ =>
    simp only [Tryd.cellsInt, Tryd.cellsStr, List.drop_zero, List.drop_succ_cons, List.take_succ_cons, List.take_zero] at h0 h1 h2 h3
    obtain ⟨i, e0, _, _⟩ := DataW.trod_int Tryd.underlying3 h0
    obtain ⟨o, e1, _, _⟩ := DataW.trod_int Tryd.underlying3 h1
    obtain ⟨k, e2, _, _⟩ := DataW.trod_int Tryd.underlying3 h2
    obtain ⟨s, e3, _, hs⟩ := DataW.trod_string Tryd.underlying9 h3
    simp at e0 e1 e2 e3
    subst e0 e1 e2 e3
    exact ⟨⟨i, o, k, s⟩, rfl, hs⟩

theorem open_cont {base : Nat} {v : Value} {d : DataW H} {p : List MemPlace} (hv : Value.okWide Tryd.prog W .any base 24 v) (h : DataW.Trod enc Tryd.prog W 0 (fun _ => true) true 24 v d p) :
    ∃ (ao : Option Addr) (n cap : Nat) (dat : ByteArray), v = .agg #[.slice ao n cap, .string dat] ∧ dat.size ≤ maxLen ∧
      (n = 0 ∨ ∃ (b off : Nat) (S : List Sec), ao = some ⟨b, off, none⟩ ∧ n = S.length ∧ SecsAt W b off S ∧ ∀ s ∈ S, s.code.size ≤ maxLen) := by
  obtain ⟨c0, c1, y0, y1, m, rfl, _, _, hy0, hy1⟩ := open_agg2 Tryd.underlying24 (by kernel_rfl) Tryd.cellsCont hv h
  obtain ⟨s, e1, _, hs⟩ := DataW.trod_string Tryd.underlying9 hy1
  simp at e1
  subst e1
  rcases open_slice Tryd.underlying22 hy0 with ⟨hcs, _⟩ | ⟨a, len, cap, mm, n, D, Pl, hcs, _, hle, _, hmm, _, hx⟩
  · simp at hcs
    subst hcs
    exact ⟨none, 0, 0, s, rfl, hs, .inl rfl⟩
  · simp at hcs
    subst hcs
    refine ⟨some a, len, cap, s, rfl, hs, ?_⟩
    by_cases hz : len = 0
    · exact .inl hz
    right
    have hml : len ≤ mm := by rw [hmm]; simp; exact hle
    rw [Tryd.cellsSec] at hx
    haveI : Inhabited Sec := ⟨⟨0, 0, 0, ByteArray.empty⟩⟩
    obtain ⟨f, hf⟩ := choose_lt (α := Sec) (n := len) (p := fun i s => (∀ j, j < 4 → W.cell? ((a.add (i * 4)).add j) = [Value.int .i64 s.i, .int .i64 s.o, .int .i64 s.m, .string s.code][j]?) ∧ s.code.size ≤ maxLen) (fun i hi => by
      obtain ⟨cs', h1, h2⟩ := hx i (by omega)
      obtain ⟨_, _, hc⟩ := World.cells?_some h1
      obtain ⟨s, rfl, hs⟩ := sec_cells h2
      exact ⟨s, hc, hs⟩)
    have hsp : a.spot = none := by
      have := (hf 0 (by omega)).1 0 (by omega)
      simp only [Nat.zero_mul] at this
      have e : (a.add 0).add 0 = a := by simp [Addr.add]
      rw [e] at this
      unfold World.cell? at this
      split at this
      · split at this
        · simp at this
        · rename_i hh; cases hq : a.spot with
          | none => rfl
          | some x => rw [hq] at hh; simp at hh
      · simp at this
    have hblk : a.block < W.heap.size := by
      have := (hf 0 (by omega)).1 0 (by omega)
      simp only [Nat.zero_mul] at this
      have e : (a.add 0).add 0 = a := by simp [Addr.add]
      rw [e] at this
      unfold World.cell? at this
      by_cases hlt : a.block < W.heap.size
      · exact hlt
      · rw [Array.getElem?_eq_none (by omega)] at this; simp at this
    obtain ⟨b, off, sp⟩ := a
    simp only at hsp hblk
    subst hsp
    refine ⟨b, off, (List.range len).map f, rfl, by simp, ⟨hblk, ?_⟩, ?_⟩
    · intro k s hk
      have hk' : k < len := by
        have := (List.getElem?_eq_some_iff.1 hk).1
        simpa using this
      simp [hk'] at hk
      subst hk
      have hadd : ∀ j, ((⟨b, off, none⟩ : Addr).add (k * 4)).add j = ⟨b, off + k * 4 + j, none⟩ := by
        intro j
        unfold Addr.add
        by_cases h1 : k * 4 = 0 <;> by_cases h2 : j = 0 <;> simp [h1, h2]
      have hc := (hf k hk').1
      simp only [hadd] at hc
      exact ⟨hc 0 (by omega), hc 1 (by omega), hc 2 (by omega), hc 3 (by omega)⟩
    · intro s hs
      obtain ⟨i, hi, rfl⟩ := List.mem_map.1 hs
      exact (hf i (List.mem_range.1 hi)).2
end
end Go.Proofs.YtdhmandnamajpaaDoor

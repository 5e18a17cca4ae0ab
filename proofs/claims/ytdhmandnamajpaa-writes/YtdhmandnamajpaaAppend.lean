/-
  appendTwo, and what an append onto a row of bytes of the call's own leaves.
-/
import Derived.Test.YtdhmandnamajpaaTwo
import Derived.Deep.AppendLies
namespace Go.Proofs.Ytdhmandnamajpaa
open Go.RowKit

theorem Try.info5 : (Try.prog.info? 5).map (fun i => (i.zero, i.size, i.bytes)) = some (some (.int .u8 0), 1, 1) := by kernel_rfl

/-- Bytes as cells. -/
def bV (l : List UInt8) : List Value := l.map fun b => Value.int .u8 (b.toNat : Int)
theorem bV_append (a b : List UInt8) : bV (a ++ b) = bV a ++ bV b := by simp [bV]
theorem bV_length (a : List UInt8) : (bV a).length = a.length := by simp [bV]
theorem bV_one {u : Value} {l : List UInt8} (h : u ∈ bV l) : u.oneCell' = true := by
  obtain ⟨b, _, rfl⟩ := List.mem_map.1 h
  rfl
theorem bV_two (n : Nat) (h : n ≤ 1000) : bV (twoL n) = [.int .u8 ((n : Int) / 256), .int .u8 ((n : Int) % 256)] := by
  have h1 : (UInt8.ofNat (n / 256)).toNat = n / 256 := by rw [UInt8.toNat_ofNat']; omega
  have h2 : (UInt8.ofNat (n % 256)).toNat = n % 256 := by rw [UInt8.toNat_ofNat']; omega
  simp only [bV, twoL, List.map_cons, List.map_nil, h1, h2]
  have e1 : (((n / 256 : Nat)) : Int) = (n : Int) / 256 := by omega
  have e2 : (((n % 256 : Nat)) : Int) = (n : Int) % 256 := by omega
  rw [e1, e2]
theorem bV_oneL {x : Int} (h0 : 0 ≤ x) (h1 : x ≤ 255) : Value.int .u8 ((oneL x).toNat : Int) = .int .u8 x := by
  have : (oneL x).toNat = x.toNat := by unfold oneL; rw [UInt8.toNat_ofNat']; omega
  rw [this]; congr 1; omega

/-- An alloc, then a growth: a growth. -/
theorem grown_alloc {w w' : World} {o : Obj} {row : Option Nat} (h : (w.alloc o).grownBy w' row) : w.grownBy w' row where
  os := h.os
  tape := h.tape
  output := h.output
  size := by have := h.size; simp at this; omega
  block := fun k hk hne => (h.block k (by simp; omega) hne).trans (Below.heap_alloc _ _ _ hk)

set_option maxHeartbeats 400000 in
theorem append_two (v : Value) (m : Nat) (l : List UInt8) (n base : Nat) (w : World) (hown : w.ownsRow base 5 1 v m (bV l)) (hm : m ≤ 100000) (hn : n ≤ 1000) (hbase : base ≤ w.heap.size) :
    Calls Try.prog 29 #[v, .int .i64 n] w fun e w' => ∃ g cap, e = .returned (.slice (some ⟨g, 0, none⟩) (m + 2) cap) ∧ w'.ownsRow base 5 1 (.slice (some ⟨g, 0, none⟩) (m + 2) cap) (m + 2) (bV (l ++ twoL n)) ∧ w.grownBy w' v.ownBlock ∧ (v.ownBlock = some g ∨ w.heap.size ≤ g) ∧ g < w'.heap.size := by
  obtain ⟨i0, hi, hz0, hz1, hz2⟩ := info_parts Try.info5
  have h2 : Hid _ := bV_two n hn
  have HO : Hid (w.ownsRow base 5 1 v m (bV l)) := hown
  clear hown
  go_enter Try.func29, Try.ntmps29
  go_wp2_with (at_builtin; refine wpList_append_lies _ rfl (.tmp 5) (.tmp 11) 42 rfl base 5 i0 (.int .u8 0) 1 1 Try.underlying42 hi hz0 hz1 hz2 rfl (by decide) v m (bV l) rfl (HO.out.alloc _) ⟨w.heap.size, 0, none⟩ 2 2 (bV (twoL n)) rfl (by rw [h2.out]; rfl) ?hnews ?hone (by decide) (by unfold maxLen; omega) (by omega) (by simp; omega) _ rfl ?_)
  case hnews =>
    rw [h2.out]
    intro j u hj
    match j, hj with
    | 0, hj => simp at hj; subst hj; simp [Addr.add]
    | 1, hj => simp at hj; subst hj; simp [Addr.add]
    | j + 2, hj => simp at hj
  case hone => exact fun u hu => bV_one hu
  intro g cap w1 hown1 hgrow hat hlt
  go_wp2
  go_ret
  exact ⟨g, cap, rfl, by rw [bV_append]; exact hown1, grown_alloc hgrow, hat.elim Or.inl (fun h => Or.inr (by rw [h]; simp)), hlt⟩
end Go.Proofs.Ytdhmandnamajpaa

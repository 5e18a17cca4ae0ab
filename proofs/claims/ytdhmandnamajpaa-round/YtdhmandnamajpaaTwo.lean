/-
  two: a number of two bytes, as a string.
-/
import Derived.Test.YtdhmandnamajpaaFits
import Derived.Laws.IdiomStrings
namespace Go.Proofs.Ytdhmandnamajpaa
open Go.RowKit

def u8L (ns : List Int) : List UInt8 := ns.map fun n => UInt8.ofNat n.toNat

theorem foldl_push_ints : ∀ (l : List Int) (r : ByteArray), l.foldl (fun r n => r.push (UInt8.ofNat n.toNat)) r = ⟨r.data ++ (u8L l).toArray⟩
  | [], r => by simp [u8L]
  | b :: l, r => by
    simp only [List.foldl_cons]
    rw [foldl_push_ints l]
    simp [ByteArray.push, u8L]

/-- A list of bytes as a string (never laid open by the walk). -/
def mkB (l : List UInt8) : ByteArray := ⟨l.toArray⟩
theorem mkB_size (l : List UInt8) : (mkB l).size = l.length := by simp [mkB, ByteArray.size]
theorem mkB_append (x y : List UInt8) : mkB x ++ mkB y = mkB (x ++ y) := ByteArray.mk_append_mk x y
theorem mkB_data (s : ByteArray) : mkB s.data.toList = s := by cases s; simp [mkB]

theorem conv_new (w : World) (ns : List Int) (g : Nat) (hg : g = w.heap.size) (cap : Nat) :
    (convert 42 9 (.slice (some ⟨g, 0, none⟩) ns.length cap)).run Try.prog (w.alloc (.cells (ns.map (Value.int .u8)).toArray 5)) = .ok (.string (mkB (u8L ns))) (w.alloc (.cells (ns.map (Value.int .u8)).toArray 5)) := by
  subst hg
  rw [run_convert_bytes_string _ 42 9 5 _ _ _ Try.underlying42 Try.underlying5 Try.underlying9]
  have hl := run_loadCells_list (P := Try.prog) (w.alloc (.cells (ns.map (Value.int .u8)).toArray 5)) ⟨w.heap.size, 0, none⟩ (ns.map (Value.int .u8)) (fun j v hj => by
    have hadd : (⟨w.heap.size, 0, none⟩ : Addr).add j = ⟨w.heap.size, j, none⟩ := by unfold Addr.add; split <;> simp_all
    rw [hadd, World.cell?_alloc_new]
    simpa using hj)
  simp only [List.length_map] at hl
  rw [run_bytesToString _ _ ns.length cap ns hl, foldl_push_ints]
  have he0 : ByteArray.empty.data = #[] := rfl
  rw [he0]
  simp [mkB]

theorem conv2 (w : World) (x y : Int) (g : Nat) (hg : g = w.heap.size) :
    (convert 42 9 (.slice (some ⟨g, 0, none⟩) 2 2)).run Try.prog (w.alloc (.cells #[.int .u8 x, .int .u8 y] 5)) = .ok (.string (mkB (u8L [x, y]))) (w.alloc (.cells #[.int .u8 x, .int .u8 y] 5)) :=
  conv_new w [x, y] g hg 2
theorem conv3 (w : World) (x y z : Int) (g : Nat) (hg : g = w.heap.size) :
    (convert 42 9 (.slice (some ⟨g, 0, none⟩) 3 3)).run Try.prog (w.alloc (.cells #[.int .u8 x, .int .u8 y, .int .u8 z] 5)) = .ok (.string (mkB (u8L [x, y, z]))) (w.alloc (.cells #[.int .u8 x, .int .u8 y, .int .u8 z] 5)) :=
  conv_new w [x, y, z] g hg 3

/-- .. in whatever world holds the three bytes. -/
theorem conv3_at (w : World) (x y z : Int) (g : Nat) (c0 : w.cell? ⟨g, 0, none⟩ = some (.int .u8 x)) (c1 : w.cell? ⟨g, 1, none⟩ = some (.int .u8 y)) (c2 : w.cell? ⟨g, 2, none⟩ = some (.int .u8 z)) :
    (convert 42 9 (.slice (some ⟨g, 0, none⟩) 3 3)).run Try.prog w = .ok (.string (mkB (u8L [x, y, z]))) w := by
  rw [run_convert_bytes_string _ 42 9 5 _ _ _ Try.underlying42 Try.underlying5 Try.underlying9]
  have hl := run_loadCells_list (P := Try.prog) w ⟨g, 0, none⟩ ([x, y, z].map (Value.int .u8)) (fun j v hj => by
    match j, hj with
    | 0, hj => simp at hj; subst hj; simpa [Addr.add] using c0
    | 1, hj => simp at hj; subst hj; simpa [Addr.add] using c1
    | 2, hj => simp at hj; subst hj; simpa [Addr.add] using c2
    | j + 3, hj => simp at hj)
  rw [run_bytesToString _ _ 3 3 [x, y, z] hl, foldl_push_ints]
  have he0 : ByteArray.empty.data = #[] := rfl
  rw [he0]
  simp [mkB]

theorem two_u8 (n : Nat) : u8L [(n : Int) / 256, (n : Int) % 256] = twoL n := by
  have h1 : ((n : Int) / 256).toNat = n / 256 := by omega
  have h2 : ((n : Int) % 256).toNat = n % 256 := by omega
  simp [u8L, twoL, h1, h2]

theorem ref_two (n : Nat) (hn : n ≤ 1000) (w : World) :
    Calls Try.prog 19 #[.int .i64 n] w fun e w' => e = .returned (.string (mkB (twoL n))) ∧ w.alloc (.cells #[.int .u8 ((n : Int) / 256), .int .u8 ((n : Int) % 256)] 5) = w' := by
  have kc := fun (w : World) (x y : Int) => conv2 w x y w.heap.size rfl
  have hu : Hid _ := two_u8 n
  go_enter Try.func19, Try.ntmps19
  go_wp2
  go_ret
  exact ⟨ret_str (by rw [← hu.out]), rfl⟩
end Go.Proofs.Ytdhmandnamajpaa
